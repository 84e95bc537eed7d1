/- The document's answer for layer 8: has, add, Inside. The document's answer for layer 8: name, Step. The document's answer for layer 8: rows of what is told; Long. The laws' own small functions of layer 8: long, name. The laws' done: what is told goes to the builder's own functions, whatever these keep (P). What the laws of layer 8 ask of a builder, whatever it keeps (BI); TB: what the tables say. Rows of Bools. The laws' known, over whatever a builder keeps. The walk of BuildEnds, over whatever a builder keeps. -/
import Derived.Test.YtpccjgoeoeehoaaDoorBs
import Derived.Deep.RegionHeld3
import Derived.Deep.DeepCutAuto
import Derived.StillTailTactics
set_option linter.unusedVariables false
set_option linter.unusedSimpArgs false
namespace Go.Proofs.YtpccjgoeoeehoaaDoor
open Go.RowKit
/-- Nodes in S. -/
def NdIs (S : Nat → Prop) (w : World) (x : NV) (y : Nd) : Prop := HdIs S w x y.hd ∧ NsS S w (pv x.kids) y.kids
theorem NdIs.keep {S : Nat → Prop} {w w' : World} {x : NV} {y : Nd} (h : NdIs S w x y) (k : Kp S w w') : NdIs S w' x y := ⟨h.1.keep k, h.2.keep k⟩
attribute [local go_sem ↓ high] builtin_appN
end Go.Proofs.YtpccjgoeoeehoaaDoor
namespace Go.Proofs.YtpccjgoeoeehoaaDoor
open Go.RowKit
def scell (b : List UInt8) : List Value := [.string ⟨b.toArray⟩]
theorem scell_len (b : List UInt8) : (scell b).length = 1 := rfl
def nameAt (l : List (List UInt8)) (k : Nat) : List UInt8 := l.getD k []
/-- Something that is told. -/
structure Dd where
  kind : Int
  s : List (List UInt8)
  x : Nd
  n : Int
  l : List Int
  g : List Gly
structure DV where
  kind : Int
  s : PV
  x : NV
  n : Int
  l : PV
  g : PV
def dcell (v : DV) : List Value := [.int .i64 v.kind, pv v.s, .int .i64 v.x.kind, .int .i64 v.x.line, .int .i64 v.x.n, pv v.x.text, pv v.x.kids, pv v.x.rows, .string ⟨v.x.cols.toArray⟩, pv v.x.trows, .bool v.x.box, .bool v.x.all, .int .i64 v.n, pv v.l, pv v.g]
structure DdIs (S : Nat → Prop) (w : World) (v : DV) (d : Dd) : Prop where
  kind : v.kind = d.kind
  s : FsS S 1 scell w (pv v.s) d.s
  x : NdIs S w v.x d.x
  n : v.n = d.n
  l : FsS S 1 icell w (pv v.l) d.l
  g : FsS S 2 gcell w (pv v.g) d.g
theorem DdIs.keep {S : Nat → Prop} {w w' : World} {v : DV} {d : Dd} (h : DdIs S w v d) (k : Kp S w w') : DdIs S w' v d := ⟨h.kind, h.s.keep k, h.x.keep k, h.n, h.l.keep k, h.g.keep k⟩
def ddl (d : Dd) : Nat := 2 + d.g.length + d.l.length + nlN d.x
def bStep (t : Bt) (d : Dd) : Bt × Bool :=
  if d.kind = 1 then ({ t with nm := ⟨nameAt d.s 0, nameAt d.s 1, nameAt d.s 2, nameAt d.s 3⟩ }, false)
  else if d.kind = 2 then (bOpen t d.x, false)
  else if d.kind = 3 then bClose t d.n
  else if d.kind = 4 then (bShut t d.l, false)
  else if d.kind = 5 then (bText t d.g d.n, false)
  else if d.kind = 6 then (bEnd t, false)
  else (bAdd t d.x, false)
end Go.Proofs.YtpccjgoeoeehoaaDoor
namespace Go.Proofs.YtpccjgoeoeehoaaDoor
open Go.RowKit
theorem dcell_len (v : DV) : (dcell v).length = 15 := rfl
def DosS (S : Nat → Prop) (w : World) (v : Value) (l : List Dd) : Prop := ∃ L : List DV, L.length = l.length ∧ FsS S 15 dcell w v L ∧ ∀ (i : Nat) x y, L[i]? = some x → l[i]? = some y → DdIs S w x y
theorem DosS.keep {S : Nat → Prop} {w w' : World} {v : Value} {l : List Dd} (h : DosS S w v l) (k : Kp S w w') : DosS S w' v l := by
  obtain ⟨L, h1, h2, h3⟩ := h
  exact ⟨L, h1, h2.keep k, fun i x y a b => (h3 i x y a b).keep k⟩
theorem DosS.len {S : Nat → Prop} {w : World} {v : Value} {l : List Dd} (h : DosS S w v l) : ∃ a cap, v = .slice a l.length cap := by
  obtain ⟨L, h1, h2, -⟩ := h
  obtain ⟨a, cap, e⟩ := h2.1.len
  exact ⟨a, cap, h1 ▸ e⟩
theorem DosS.at {S : Nat → Prop} {w : World} {a : Option Addr} {k cap : Nat} {l : List Dd} (h : DosS S w (.slice a k cap) l) {j : Nat} {y : Dd} (hy : l[j]? = some y) :
    ∃ g off x, a = some ⟨g, off, none⟩ ∧ S g ∧ (∀ (i : Nat) c, (dcell x)[i]? = some c → w.cell? ⟨g, off + j * 15 + i, none⟩ = some c) ∧ DdIs S w x y := by
  obtain ⟨L, h1, h2, h3⟩ := h
  obtain ⟨x, hx⟩ : ∃ x, L[j]? = some x := ⟨L[j]'(by have := (List.getElem?_eq_some_iff.1 hy).1; omega), List.getElem?_eq_getElem _⟩
  obtain ⟨g, off, e, hg, hc⟩ := h2.at hx
  exact ⟨g, off, x, e, hg, fun i c hi => by rw [Nat.add_assoc]; exact hc i c hi, h3 j x y hx hy⟩
def ddls (l : List Dd) : Nat := (l.map ddl).sum
theorem ddls_next {l : List Dd} {p : Nat} {x : Dd} (hx : l[p]? = some x) : ddls (l.take (p + 1)) = ddls (l.take p) + ddl x := by
  rw [List.take_add_one, hx]
  simp [ddls]
theorem ddls_take (l : List Dd) (p : Nat) : ddls (l.take p) ≤ ddls l := by
  have h : ddls (l.take p ++ l.drop p) = ddls (l.take p) + ddls (l.drop p) := by unfold ddls; rw [List.map_append, List.sum_append]
  rw [List.take_append_drop] at h
  omega
theorem ddls_le {l : List Dd} {p : Nat} {x : Dd} (hx : l[p]? = some x) : ddl x + ddls (l.take p) ≤ ddls l := by
  have h1 := ddls_next hx
  have h2 := ddls_take l (p + 1)
  omega
theorem ddls_len : ∀ l : List Dd, l.length ≤ ddls l
  | [] => by simp [ddls]
  | x :: l => by
    have := ddls_len l
    have e : ddl x = 2 + x.g.length + x.l.length + nlN x.x := rfl
    simp only [ddls, List.map_cons, List.sum_cons, List.length_cons] at this ⊢
    omega
/-- One node, written out. -/
theorem ns_one {S : Nat → Prop} {w : World} {x : NV} {y : Nd} (hS : ∀ b, S b → b < w.heap.size) (h : NdIs S w x y) :
    NsS (fun b => S b ∨ b = w.heap.size) (w.alloc (.cells (ncell x).toArray 40)) (.slice (some ⟨w.heap.size, 0, none⟩) 1 1) [y] := by
  have hk := Kp.below (below_lit w (.cells (ncell x).toArray 40)) hS
  refine .mk _ _ [x] rfl ⟨?_, fun a k c e _ => ?_⟩ (fun i x' y' a b => ?_) (fun i x' y' a b => ?_)
  · have := fs_lit ncell_len w 40 [x]
    rw [flatV_one] at this
    exact this
  · injection e with e1
    injection e1 with e1
    subst e1
    exact ⟨.inr rfl, fun _ i _ => by
      have h := heap_alloc_new w (.cells (ncell x).toArray 40)
      simp only [World.frozen?, h]
      simp⟩
  · match i, a, b with
    | 0, a, b =>
      simp at a b
      subst a b
      exact (h.1.keep hk).mono fun b q => .inl q
    | i + 1, a, _ => simp at a
  · match i, a, b with
    | 0, a, b =>
      simp at a b
      subst a b
      exact (h.2.keep hk).mono fun b q => .inl q
    | i + 1, a, _ => simp at a
set_option maxRecDepth 100000 in
set_option maxHeartbeats 8000000 in
theorem rlong8_any (S : Nat → Prop) (l : List Dd) (v : Value) (w : World) (hS : ∀ b, S b → b < w.heap.size) (hv : DosS S w v l) (hb : ddls l ≤ 1000000000) :
    Calls Tryd.prog 29 #[v] w fun e w' => e = .returned (.int .i64 (ddls l : Int)) ∧ Below w.heap.size w w' := by
  have HV := Lib.hid hv
  have HS := Lib.hid hS
  obtain ⟨va, vc, rfl⟩ := hv.len
  have hln := ddls_len l
  obtain ⟨ln, hln2⟩ : ∃ n, l.length = n := ⟨_, rfl⟩
  have HLN := Lib.hid hln2
  rw [hln2] at HV hln ⊢
  clear hv hS hln2
  go_enter Tryd.func29, Tryd.ntmps29
  go_wp2_with fail
  go_loopw [3, 4] (fun s i wr => ∃ p : Nat, p ≤ ln ∧ s = .int .i64 (ddls (l.take p) : Int) ∧ i = .int .i64 (p : Int) ∧ Hid (Below w.heap.size w wr)) (fun _ i _ => ln - (intOf i).toNat)
  case atStart => exact ⟨0, by omega, by simp [ddls], rfl, Lib.hid (Below.refl _ _)⟩
  case round =>
    obtain ⟨p, hp, rfl, rfl, BW⟩ := hrel
    by_cases hlt : p < ln
    · obtain ⟨y, hy⟩ : ∃ y, l[p]? = some y := ⟨l[p]'(by rw [HLN.out]; exact hlt), List.getElem?_eq_getElem _⟩
      have HN := Lib.hid (ddls_next hy)
      have hle := ddls_le hy
      have hdd : ddl y = 2 + y.g.length + y.l.length + nlN y.x := rfl
      obtain ⟨g, off, dv, rfl, hgS, hC, hD⟩ := (HV.out.keep (Kp.below BW.out HS.out)).at hy
      obtain ⟨A, hA⟩ : ∃ A, ddls (l.take p) = A := ⟨_, rfl⟩
      rw [hA] at HN hle ⊢
      have hx2 := hD.x
      obtain ⟨ga, gc, hge⟩ := hD.g.1.len
      obtain ⟨la, lc, hle2⟩ := hD.l.1.len
      obtain ⟨dk, ⟨s1, s2, s3⟩, ⟨xk, xl, xn, ⟨t1, t2, t3⟩, ⟨k1, k2, k3⟩, ⟨r1, r2, r3⟩, xc, ⟨q1, q2, q3⟩, xb, xa⟩, dn, ⟨l1, l2, l3⟩, ⟨g1, g2, g3⟩⟩ := dv
      simp only [pv] at hge hle2
      injection hge with h1 h2 h3
      injection hle2 with h4 h5 h6
      obtain ⟨xv, hxv⟩ : ∃ xv : NV, xv = ⟨xk, xl, xn, (t1, t2, t3), (k1, k2, k3), (r1, r2, r3), xc, (q1, q2, q3), xb, xa⟩ := ⟨_, rfl⟩
      have hSr : ∀ b, S b → b < wr.heap.size := fun b q => Nat.lt_of_lt_of_le (HS.out b q) BW.out.size
      obtain ⟨X, hX⟩ : ∃ X, X = wr := ⟨_, rfl⟩
      have hLG : Hid (∀ W, Below wr.heap.size wr W → Calls Tryd.prog 19 #[.slice (some ⟨W.heap.size, 0, none⟩) 1 1] (W.alloc (.cells (ncell ⟨xk, xl, xn, (t1, t2, t3), (k1, k2, k3), (r1, r2, r3), xc, (q1, q2, q3), xb, xa⟩).toArray 40)) fun e w' => e = .returned (.int .i64 (nlN y.x : Int)) ∧ Below wr.heap.size wr w') := Lib.hid (fun W hb => by
        have hk := Kp.below hb hSr
        have hSW : ∀ b, S b → b < W.heap.size := fun b q => Nat.lt_of_lt_of_le (hSr b q) hb.size
        have h0 := ns_one hSW (hx2.keep hk)
        have hbl := below_lit W (.cells (ncell ⟨xk, xl, xn, (t1, t2, t3), (k1, k2, k3), (r1, r2, r3), xc, (q1, q2, q3), xb, xa⟩).toArray 40)
        have e1 : nlL [y.x] = nlN y.x := by simp [nlL]
        have := rlong_any _ (cntL [y.x]) [y.x] rfl (by rw [e1]; omega) _ _ h0
        unfold RdN at this
        rw [e1] at this
        exact this.mono (fun e w' ⟨q1, m, q2⟩ => ⟨q1, hb.trans ((hbl.trans (by rw [q2]; exact below_drewN (Below.refl _ _) m)).mono hb.size)⟩))
      have hg2 : g2 = y.g.length := h2
      have hl2 : l2 = y.l.length := h5
      have hsum : A + 2 + g2 + l2 + nlN y.x = A + ddl y := by omega
      have hb2 : A + ddl y ≤ 1000000000 := by omega
      obtain ⟨nx, hnx⟩ : ∃ q, nlN y.x = q := ⟨_, rfl⟩
      rw [hnx] at hLG hsum
      have HSM := Lib.hid hsum
      have w1 : IntKind.i64.wrap ((A : Int) + 2) = (A : Int) + 2 := IntWalk.i64_in _ (by omega)
      have w2 : IntKind.i64.wrap ((A : Int) + 2 + (g2 : Int)) = (A : Int) + 2 + (g2 : Int) := IntWalk.i64_in _ (by omega)
      have w3 : IntKind.i64.wrap ((A : Int) + 2 + (g2 : Int) + (l2 : Int)) = (A : Int) + 2 + (g2 : Int) + (l2 : Int) := IntWalk.i64_in _ (by omega)
      have w4 : IntKind.i64.wrap ((A : Int) + 2 + (g2 : Int) + (l2 : Int) + (nx : Int)) = (A : Int) + 2 + (g2 : Int) + (l2 : Int) + (nx : Int) := IntWalk.i64_in _ (by omega)
      have HSC : Hid (∀ W, Below wr.heap.size wr W → W.cell? ⟨g, off + p * 15 + 14, none⟩ = some (.slice g1 g2 g3) ∧ W.cell? ⟨g, off + p * 15 + 13, none⟩ = some (.slice l1 l2 l3) ∧ W.cell? ⟨g, off + p * 15 + 2, none⟩ = some (.int .i64 xk) ∧ W.cell? ⟨g, off + p * 15 + 3, none⟩ = some (.int .i64 xl) ∧ W.cell? ⟨g, off + p * 15 + 4, none⟩ = some (.int .i64 xn) ∧ W.cell? ⟨g, off + p * 15 + 5, none⟩ = some (.slice t1 t2 t3) ∧ W.cell? ⟨g, off + p * 15 + 6, none⟩ = some (.slice k1 k2 k3) ∧ W.cell? ⟨g, off + p * 15 + 7, none⟩ = some (.slice r1 r2 r3) ∧ W.cell? ⟨g, off + p * 15 + 8, none⟩ = some (.string ⟨xc.toArray⟩) ∧ W.cell? ⟨g, off + p * 15 + 9, none⟩ = some (.slice q1 q2 q3) ∧ W.cell? ⟨g, off + p * 15 + 10, none⟩ = some (.bool xb) ∧ W.cell? ⟨g, off + p * 15 + 11, none⟩ = some (.bool xa)) := Lib.hid (fun W hb => by
        have e : ∀ j, W.cell? ⟨g, j, none⟩ = wr.cell? ⟨g, j, none⟩ := fun j => World.cell?_of_block (hb.block g (hSr g hgS))
        exact ⟨(e _).trans (hC 14 _ rfl), (e _).trans (hC 13 _ rfl), (e _).trans (hC 2 _ rfl), (e _).trans (hC 3 _ rfl), (e _).trans (hC 4 _ rfl), (e _).trans (hC 5 _ rfl), (e _).trans (hC 6 _ rfl), (e _).trans (hC 7 _ rfl), (e _).trans (hC 8 _ rfl), (e _).trans (hC 9 _ rfl), (e _).trans (hC 10 _ rfl), (e _).trans (hC 11 _ rfl)⟩)
      have HX : Hid (Below wr.heap.size wr wr.drew) := Lib.hid (Below.refl _ wr).drew
      have hlt' : (p : Int) < (ln : Int) := by omega
      have hp0 : (0 : Int) ≤ (p : Int) := by omega
      simp only [ncell, pv] at hLG
      clear hy hle hdd hC hD hx2 h1 h2 h3 h4 h5 h6 hxv hSr hX hg2 hl2 hsum hb2 hnx hA hgS X xv
      go_upto_region 5 with fail
      refine wp_region_held_drew (S := (fun W' => W'.cell? ⟨g, off + p * 15 + 14, none⟩ = some (.slice g1 g2 g3) ∧ W'.cell? ⟨g, off + p * 15 + 13, none⟩ = some (.slice l1 l2 l3) ∧ W'.cell? ⟨g, off + p * 15 + 2, none⟩ = some (.int .i64 xk) ∧ W'.cell? ⟨g, off + p * 15 + 3, none⟩ = some (.int .i64 xl) ∧ W'.cell? ⟨g, off + p * 15 + 4, none⟩ = some (.int .i64 xn) ∧ W'.cell? ⟨g, off + p * 15 + 5, none⟩ = some (.slice t1 t2 t3) ∧ W'.cell? ⟨g, off + p * 15 + 6, none⟩ = some (.slice k1 k2 k3) ∧ W'.cell? ⟨g, off + p * 15 + 7, none⟩ = some (.slice r1 r2 r3) ∧ W'.cell? ⟨g, off + p * 15 + 8, none⟩ = some (.string ⟨xc.toArray⟩) ∧ W'.cell? ⟨g, off + p * 15 + 9, none⟩ = some (.slice q1 q2 q3) ∧ W'.cell? ⟨g, off + p * 15 + 10, none⟩ = some (.bool xb) ∧ W'.cell? ⟨g, off + p * 15 + 11, none⟩ = some (.bool xa))) (by kernel_rfl) ?_ (fun hHeld => ?_)
      · exact HSC.out _ HX.out
      refine wpAnyH_take (i := 0) (v := .int .i64 A) rfl (by kernel_rfl) (by kernel_rfl) (by kernel_rfl) (fun _ _ _ h => h) (Or.inl ⟨by rfl, fun w' hSw => by (try dsimp only at hSw); go_simp⟩) (by assumption) ?_
      simp only [List.getElem_toArray, List.getElem_cons_succ, List.getElem_cons_zero, Act.put, List.setIfInBounds_toArray, List.set_cons_zero, List.set_cons_succ]
      refine wpAnyH_take (i := 1) (v := .int .i64 (A + 2)) rfl (by kernel_rfl) (by kernel_rfl) (by kernel_rfl) (fun _ _ _ h => h) (Or.inl ⟨by rfl, fun w' hSw => by (try dsimp only at hSw); go_simp⟩) (by assumption) ?_
      simp only [List.getElem_toArray, List.getElem_cons_succ, List.getElem_cons_zero, Act.put, List.setIfInBounds_toArray, List.set_cons_zero, List.set_cons_succ]
      refine wpAnyH_take (i := 2) (v := .slice (some ⟨g, off, none⟩) ln vc) rfl (by kernel_rfl) (by kernel_rfl) (by kernel_rfl) (fun _ _ _ h => h) (Or.inl ⟨by rfl, fun w' hSw => by (try dsimp only at hSw); go_simp⟩) (by assumption) ?_
      simp only [List.getElem_toArray, List.getElem_cons_succ, List.getElem_cons_zero, Act.put, List.setIfInBounds_toArray, List.set_cons_zero, List.set_cons_succ]
      refine wpAnyH_take (i := 3) (v := .int .i64 p) rfl (by kernel_rfl) (by kernel_rfl) (by kernel_rfl) (fun _ _ _ h => h) (Or.inl ⟨by rfl, fun w' hSw => by (try dsimp only at hSw); go_simp⟩) (by assumption) ?_
      simp only [List.getElem_toArray, List.getElem_cons_succ, List.getElem_cons_zero, Act.put, List.setIfInBounds_toArray, List.set_cons_zero, List.set_cons_succ]
      refine wpAnyH_take (i := 4) (v := .pointer (some ⟨g, off + p * 15, none⟩)) rfl (by kernel_rfl) (by kernel_rfl) (by kernel_rfl) (fun _ _ _ h => h) (Or.inl ⟨by rfl, fun w' hSw => by (try dsimp only at hSw); go_simp⟩) (by assumption) ?_
      simp only [List.getElem_toArray, List.getElem_cons_succ, List.getElem_cons_zero, Act.put, List.setIfInBounds_toArray, List.set_cons_zero, List.set_cons_succ]
      refine wpAnyH_take (i := 5) (v := .pointer (some ⟨g, off + p * 15 + 14, none⟩)) rfl (by kernel_rfl) (by kernel_rfl) (by kernel_rfl) (fun _ _ _ h => h) (Or.inl ⟨by rfl, fun w' hSw => by (try dsimp only at hSw); go_simp⟩) (by assumption) ?_
      simp only [List.getElem_toArray, List.getElem_cons_succ, List.getElem_cons_zero, Act.put, List.setIfInBounds_toArray, List.set_cons_zero, List.set_cons_succ]
      refine wpAnyH_take (i := 6) (v := .slice g1 g2 g3) rfl (by kernel_rfl) (by kernel_rfl) (by kernel_rfl) (fun _ _ _ h => h) (Or.inl ⟨by rfl, fun w' hSw => by (try dsimp only at hSw); go_simp⟩) (by assumption) ?_
      simp only [List.getElem_toArray, List.getElem_cons_succ, List.getElem_cons_zero, Act.put, List.setIfInBounds_toArray, List.set_cons_zero, List.set_cons_succ]
      refine wpAnyH_take (i := 7) (v := .int .i64 g2) rfl (by kernel_rfl) (by kernel_rfl) (by kernel_rfl) (fun _ _ _ h => h) (Or.inl ⟨by rfl, fun w' hSw => by (try dsimp only at hSw); go_simp⟩) (by assumption) ?_
      simp only [List.getElem_toArray, List.getElem_cons_succ, List.getElem_cons_zero, Act.put, List.setIfInBounds_toArray, List.set_cons_zero, List.set_cons_succ]
      refine wpAnyH_take (i := 8) (v := .int .i64 (A + 2 + g2)) rfl (by kernel_rfl) (by kernel_rfl) (by kernel_rfl) (fun _ _ _ h => h) (Or.inl ⟨by rfl, fun w' hSw => by (try dsimp only at hSw); go_simp⟩) (by assumption) ?_
      simp only [List.getElem_toArray, List.getElem_cons_succ, List.getElem_cons_zero, Act.put, List.setIfInBounds_toArray, List.set_cons_zero, List.set_cons_succ]
      refine wpAnyH_take (i := 9) (v := .slice (some ⟨g, off, none⟩) ln vc) rfl (by kernel_rfl) (by kernel_rfl) (by kernel_rfl) (fun _ _ _ h => h) (Or.inl ⟨by rfl, fun w' hSw => by (try dsimp only at hSw); go_simp⟩) (by assumption) ?_
      simp only [List.getElem_toArray, List.getElem_cons_succ, List.getElem_cons_zero, Act.put, List.setIfInBounds_toArray, List.set_cons_zero, List.set_cons_succ]
      refine wpAnyH_take (i := 10) (v := .int .i64 p) rfl (by kernel_rfl) (by kernel_rfl) (by kernel_rfl) (fun _ _ _ h => h) (Or.inl ⟨by rfl, fun w' hSw => by (try dsimp only at hSw); go_simp⟩) (by assumption) ?_
      simp only [List.getElem_toArray, List.getElem_cons_succ, List.getElem_cons_zero, Act.put, List.setIfInBounds_toArray, List.set_cons_zero, List.set_cons_succ]
      refine wpAnyH_take (i := 11) (v := .pointer (some ⟨g, off + p * 15, none⟩)) rfl (by kernel_rfl) (by kernel_rfl) (by kernel_rfl) (fun _ _ _ h => h) (Or.inl ⟨by rfl, fun w' hSw => by (try dsimp only at hSw); go_simp⟩) (by assumption) ?_
      simp only [List.getElem_toArray, List.getElem_cons_succ, List.getElem_cons_zero, Act.put, List.setIfInBounds_toArray, List.set_cons_zero, List.set_cons_succ]
      refine wpAnyH_take (i := 12) (v := .pointer (some ⟨g, off + p * 15 + 13, none⟩)) rfl (by kernel_rfl) (by kernel_rfl) (by kernel_rfl) (fun _ _ _ h => h) (Or.inl ⟨by rfl, fun w' hSw => by (try dsimp only at hSw); go_simp⟩) (by assumption) ?_
      simp only [List.getElem_toArray, List.getElem_cons_succ, List.getElem_cons_zero, Act.put, List.setIfInBounds_toArray, List.set_cons_zero, List.set_cons_succ]
      refine wpAnyH_take (i := 13) (v := .slice l1 l2 l3) rfl (by kernel_rfl) (by kernel_rfl) (by kernel_rfl) (fun _ _ _ h => h) (Or.inl ⟨by rfl, fun w' hSw => by (try dsimp only at hSw); go_simp⟩) (by assumption) ?_
      simp only [List.getElem_toArray, List.getElem_cons_succ, List.getElem_cons_zero, Act.put, List.setIfInBounds_toArray, List.set_cons_zero, List.set_cons_succ]
      refine wpAnyH_take (i := 14) (v := .int .i64 l2) rfl (by kernel_rfl) (by kernel_rfl) (by kernel_rfl) (fun _ _ _ h => h) (Or.inl ⟨by rfl, fun w' hSw => by (try dsimp only at hSw); go_simp⟩) (by assumption) ?_
      simp only [List.getElem_toArray, List.getElem_cons_succ, List.getElem_cons_zero, Act.put, List.setIfInBounds_toArray, List.set_cons_zero, List.set_cons_succ]
      refine wpAnyH_take (i := 15) (v := .int .i64 (A + 2 + g2 + l2)) rfl (by kernel_rfl) (by kernel_rfl) (by kernel_rfl) (fun _ _ _ h => h) (Or.inl ⟨by rfl, fun w' hSw => by (try dsimp only at hSw); go_simp⟩) (by assumption) ?_
      simp only [List.getElem_toArray, List.getElem_cons_succ, List.getElem_cons_zero, Act.put, List.setIfInBounds_toArray, List.set_cons_zero, List.set_cons_succ]
      refine wpAnyH_take (i := 16) (v := .slice (some ⟨g, off, none⟩) ln vc) rfl (by kernel_rfl) (by kernel_rfl) (by kernel_rfl) (fun _ _ _ h => h) (Or.inl ⟨by rfl, fun w' hSw => by (try dsimp only at hSw); go_simp⟩) (by assumption) ?_
      simp only [List.getElem_toArray, List.getElem_cons_succ, List.getElem_cons_zero, Act.put, List.setIfInBounds_toArray, List.set_cons_zero, List.set_cons_succ]
      refine wpAnyH_take (i := 17) (v := .int .i64 p) rfl (by kernel_rfl) (by kernel_rfl) (by kernel_rfl) (fun _ _ _ h => h) (Or.inl ⟨by rfl, fun w' hSw => by (try dsimp only at hSw); go_simp⟩) (by assumption) ?_
      simp only [List.getElem_toArray, List.getElem_cons_succ, List.getElem_cons_zero, Act.put, List.setIfInBounds_toArray, List.set_cons_zero, List.set_cons_succ]
      refine wpAnyH_take (i := 18) (v := .pointer (some ⟨g, off + p * 15, none⟩)) rfl (by kernel_rfl) (by kernel_rfl) (by kernel_rfl) (fun _ _ _ h => h) (Or.inl ⟨by rfl, fun w' hSw => by (try dsimp only at hSw); go_simp⟩) (by assumption) ?_
      simp only [List.getElem_toArray, List.getElem_cons_succ, List.getElem_cons_zero, Act.put, List.setIfInBounds_toArray, List.set_cons_zero, List.set_cons_succ]
      refine wpAnyH_take (i := 19) (v := .pointer (some ⟨g, off + p * 15 + 2, none⟩)) rfl (by kernel_rfl) (by kernel_rfl) (by kernel_rfl) (fun _ _ _ h => h) (Or.inl ⟨by rfl, fun w' hSw => by (try dsimp only at hSw); go_simp⟩) (by assumption) ?_
      simp only [List.getElem_toArray, List.getElem_cons_succ, List.getElem_cons_zero, Act.put, List.setIfInBounds_toArray, List.set_cons_zero, List.set_cons_succ]
      refine wpAnyH_take (i := 20) (v := .agg #[.int .i64 xk, .int .i64 xl, .int .i64 xn, .slice t1 t2 t3, .slice k1 k2 k3, .slice r1 r2 r3, .string ⟨xc.toArray⟩, .slice q1 q2 q3, .bool xb, .bool xa]) rfl (by kernel_rfl) (by kernel_rfl) (by kernel_rfl) (fun _ _ _ h => h) (Or.inl ⟨by rfl, fun w' hSw => by (try dsimp only at hSw); go_simp⟩) (by assumption) ?_
      simp only [List.getElem_toArray, List.getElem_cons_succ, List.getElem_cons_zero, Act.put, List.setIfInBounds_toArray, List.set_cons_zero, List.set_cons_succ]
      refine wpAnyH_ready (rs := [21]) (by kernel_rfl) (by simp) ?_
      refine AllReadyH.cons rfl (fun K hK => ?_) AllReadyH.nil
      try simp only [List.getElem_toArray, List.getElem_cons_succ, List.getElem_cons_zero]
      go_simp
      refine hK.out _ _ ?_ (fun hHeld => ?_)
      · exact HSC.out _ (HX.out.alloc HX.out.size _)
      clear hK K
      try simp only [List.getElem_toArray, List.getElem_cons_succ, List.getElem_cons_zero, Act.put, List.setIfInBounds_toArray, List.set_cons_zero, List.set_cons_succ]
      refine wpAnyH_ready (rs := [22]) (by kernel_rfl) (by simp) ?_
      refine AllReadyH.cons rfl (fun K hK => ?_) AllReadyH.nil
      try simp only [List.getElem_toArray, List.getElem_cons_succ, List.getElem_cons_zero]
      go_simp
      go_at_call 19
      refine (hLG.out wr.drew HX.out).mono ?_
      rintro e w7 ⟨rfl, b7⟩
      clear HX
      have HX := Lib.hid b7
      clear b7
      go_wp2_with fail
      refine hK.out _ _ ?_ (fun hHeld => ?_)
      · exact HSC.out _ HX.out
      clear hK K
      try simp only [List.getElem_toArray, List.getElem_cons_succ, List.getElem_cons_zero, Act.put, List.setIfInBounds_toArray, List.set_cons_zero, List.set_cons_succ]
      refine wpAnyH_take (i := 23) (v := .int .i64 (A + 2 + g2 + l2 + nx)) rfl (by kernel_rfl) (by kernel_rfl) (by kernel_rfl) (fun _ _ _ h => h) (Or.inl ⟨by rfl, fun w' hSw => by (try dsimp only at hSw); go_simp⟩) (by assumption) ?_
      simp only [List.getElem_toArray, List.getElem_cons_succ, List.getElem_cons_zero, Act.put, List.setIfInBounds_toArray, List.set_cons_zero, List.set_cons_succ]
      refine wpAnyH_take (i := 24) (v := .int .i64 (A + 2 + g2 + l2 + nx)) rfl (by kernel_rfl) (by kernel_rfl) (by kernel_rfl) (fun _ _ _ h => h) (Or.inl ⟨by rfl, fun w' hSw => by (try dsimp only at hSw); go_simp⟩) (by assumption) ?_
      simp only [List.getElem_toArray, List.getElem_cons_succ, List.getElem_cons_zero, Act.put, List.setIfInBounds_toArray, List.set_cons_zero, List.set_cons_succ]
      refine wpAnyH_done (by kernel_rfl) ?_ _
      go_wp2_with fail
      go_roundw
      case rel => exact ⟨p + 1, by omega, by rw [HN.out, ← HSM.out]; go_num, by go_num, Lib.hid (BW.out.trans (HX.out.mono BW.out.size))⟩
      case measure => (simp [intOf]; try omega)
    · obtain rfl : p = ln := by omega
      have hlt' : ¬ (p : Int) < (p : Int) := by omega
      rw [List.take_of_length_le (by rw [HLN.out]; omega)]
      go_wp2_with fail
      go_ret
      exact ⟨rfl, BW.out⟩
end Go.Proofs.YtpccjgoeoeehoaaDoor
namespace Go.Proofs.YtpccjgoeoeehoaaDoor
open Go.RowKit
def longD (l : List Dd) : Bool := decide (800 < ddls l) || decide (60 < l.length)
theorem longD_false {l : List Dd} (h : longD l = false) : ddls l ≤ 800 ∧ l.length ≤ 60 := by
  unfold longD at h
  simp only [Bool.or_eq_false_iff, decide_eq_false_iff_not] at h
  omega
set_option maxRecDepth 100000 in
theorem llong_any (S : Nat → Prop) (l : List Dd) (v : Value) (w : World) (hS : ∀ b, S b → b < w.heap.size) (hv : DosS S w v l) (hb : ddls l ≤ 1000000000) :
    Calls Tryd.prog 8 #[v] w fun e w' => e = .returned (.bool (longD l)) ∧ Below w.heap.size w w' := by
  have HL := Lib.hid (rlong8_any S l v w hS hv hb)
  obtain ⟨va, vc, rfl⟩ := hv.len
  have hln := ddls_len l
  unfold longD
  obtain ⟨n, hn⟩ : ∃ n, ddls l = n := ⟨_, rfl⟩
  obtain ⟨k, hk⟩ : ∃ n, l.length = n := ⟨_, rfl⟩
  rw [hn, hk] at HL hln
  rw [hn] at hb
  rw [hn, hk]
  obtain ⟨R, hR⟩ : ∃ R, (decide (800 < n) || decide (60 < k)) = R := ⟨_, rfl⟩
  rw [hR]
  have HR := Lib.hid hR
  clear hv hn hk hS hR
  go_enter Tryd.func8, Tryd.ntmps8
  go_wp2_with fail
  refine HL.out.mono ?_
  rintro e w1 ⟨rfl, b1⟩
  have B1 := Lib.hid b1
  clear b1 HL
  by_cases h1 : 800 < n
  · have e1 : decide (800 < n) = true := decide_eq_true h1
    have e2 : decide ((n : Int) > 800) = true := decide_eq_true (by omega)
    have e3 : decide ((800 : Int) < (n : Int)) = true := decide_eq_true (by omega)
    have HQ : Hid (true = R) := Lib.hid (by rw [← HR.out, e1]; rfl)
    clear e1
    go_wp2_with fail
    go_ret
    exact ⟨ret_bool HQ.out, B1.out⟩
  · have e1 : decide (800 < n) = false := decide_eq_false h1
    have e2 : decide ((n : Int) > 800) = false := decide_eq_false (by omega)
    have e3 : decide ((800 : Int) < (n : Int)) = false := decide_eq_false (by omega)
    by_cases h2 : 60 < k
    · have f1 : decide (60 < k) = true := decide_eq_true h2
      have f2 : decide ((k : Int) > 60) = true := decide_eq_true (by omega)
      have f3 : decide ((60 : Int) < (k : Int)) = true := decide_eq_true (by omega)
      have HQ : Hid (true = R) := Lib.hid (by rw [← HR.out, e1, f1]; rfl)
      clear e1 f1
      go_wp2_with fail
      go_ret
      exact ⟨ret_bool HQ.out, B1.out⟩
    · have f1 : decide (60 < k) = false := decide_eq_false h2
      have f2 : decide ((k : Int) > 60) = false := decide_eq_false (by omega)
      have f3 : decide ((60 : Int) < (k : Int)) = false := decide_eq_false (by omega)
      have HQ : Hid (false = R) := Lib.hid (by rw [← HR.out, e1, f1]; rfl)
      clear e1 f1
      go_wp2_with fail
      go_ret
      exact ⟨ret_bool HQ.out, B1.out⟩
set_option maxRecDepth 100000 in
theorem lname_any (fn : Nat) (l : List (List UInt8)) (k : Nat) (v : Value) (w : World) (hv : Fs 1 scell w v l) (hl : l.length ≤ 2000000) (hk : k ≤ 3) :
    Calls Tryd.prog 32 #[v, .int .i64 (k : Int)] w fun e w' => e = .returned (.string ⟨(nameAt l k).toArray⟩) ∧ w' = w := by
  obtain ⟨a, c, rfl, -, hr⟩ := hv
  by_cases hlt : k < l.length
  · obtain ⟨x, hx⟩ : ∃ x, l[k]? = some x := ⟨l[k], List.getElem?_eq_getElem hlt⟩
    obtain ⟨g, off, rfl, hc⟩ := hr k x hx
    have c0 := hc 0 _ rfl
    rw [Nat.mul_one, Nat.add_zero] at c0
    have hN : nameAt l k = x := by unfold nameAt; rw [List.getD_eq_getElem?_getD, hx]; rfl
    rw [hN]
    have h1 : ¬ ((k : Int) ≥ (l.length : Int)) := by omega
    have h2 : (k : Int) < (l.length : Int) := by omega
    have h3 : (0 : Int) ≤ (k : Int) := by omega
    clear hN hx hc hr
    go_enter Tryd.func32, Tryd.ntmps32
    go_wp2_with fail
    go_ret
    exact ⟨rfl, rfl⟩
  · have hN : nameAt l k = [] := by unfold nameAt; rw [List.getD_eq_getElem?_getD, List.getElem?_eq_none (by omega)]; rfl
    rw [hN]
    have h1 : ((k : Int) ≥ (l.length : Int)) := by omega
    clear hr hN
    go_enter Tryd.func32, Tryd.ntmps32
    go_wp2_with fail
    go_ret
    exact ⟨rfl, rfl⟩
end Go.Proofs.YtpccjgoeoeehoaaDoor
namespace Go.Proofs.YtpccjgoeoeehoaaDoor
open Go.RowKit
/-- What a builder's own functions do with what is told, in every world behind w. -/
structure Told (P : Bt → World → Prop) (bp : Value) (t : Bt) (dv : DV) (d : Dd) (w : World) : Prop where
  title : d.kind = 1 → ∀ W, Below w.heap.size w W → Calls Tryd.prog 28 #[bp, .string ⟨(nameAt d.s 0).toArray⟩, .string ⟨(nameAt d.s 1).toArray⟩, .string ⟨(nameAt d.s 2).toArray⟩, .string ⟨(nameAt d.s 3).toArray⟩] W fun e w' => e = .returned (.tuple #[]) ∧ P (bStep t d).1 w' ∧ ∀ k, w.heap.size ≤ k → k < W.heap.size → w'.heap[k]? = W.heap[k]?
  opn : d.kind = 2 → ∀ W, Below w.heap.size w W → Calls Tryd.prog 30 #[bp, .agg (ncell dv.x).toArray] W fun e w' => e = .returned (.tuple #[]) ∧ P (bStep t d).1 w'
  close : d.kind = 3 → ∀ W, Below w.heap.size w W → Calls Tryd.prog 27 #[bp, .int .i64 d.n] W fun e w' => e = .returned (.bool (bStep t d).2) ∧ P (bStep t d).1 w'
  shut : d.kind = 4 → ∀ W, Below w.heap.size w W → Calls Tryd.prog 23 #[bp, pv dv.l] W fun e w' => e = .returned (.tuple #[]) ∧ P (bStep t d).1 w'
  text : d.kind = 5 → ∀ W, Below w.heap.size w W → Calls Tryd.prog 24 #[bp, pv dv.g, .int .i64 d.n] W fun e w' => e = .returned (.tuple #[]) ∧ P (bStep t d).1 w'
  nd : d.kind = 6 → ∀ W, Below w.heap.size w W → Calls Tryd.prog 22 #[bp] W fun e w' => e = .returned (.tuple #[]) ∧ P (bStep t d).1 w'
  add : ¬ d.kind = 1 → ¬ d.kind = 2 → ¬ d.kind = 3 → ¬ d.kind = 4 → ¬ d.kind = 5 → ¬ d.kind = 6 → ∀ W, Below w.heap.size w W → Calls Tryd.prog 20 #[bp, .agg (ncell dv.x).toArray] W fun e w' => e = .returned (.tuple #[]) ∧ P (bStep t d).1 w'
theorem bStep_false {t : Bt} {d : Dd} (h : ¬ d.kind = 3) : (bStep t d).2 = false := by
  unfold bStep
  repeat' split
  all_goals first | rfl | (exact absurd (by assumption) h)
set_option maxRecDepth 100000 in
set_option maxHeartbeats 8000000 in
theorem ldone_any (P : Bt → World → Prop) (S : Nat → Prop) (bb : Nat) (t : Bt) (dv : DV) (d : Dd) (w : World) (hS : ∀ b, S b → b < w.heap.size) (hd : DdIs S w dv d) (hs : d.s.length ≤ 2000000) (hT : Told P (.pointer (some ⟨bb, 0, none⟩)) t dv d w) :
    Calls Tryd.prog 11 #[.pointer (some ⟨bb, 0, none⟩), .agg (dcell dv).toArray] w fun e w' => e = .returned (.bool (bStep t d).2) ∧ P (bStep t d).1 w' := by
  obtain ⟨W0, hW0⟩ : ∃ W, W = w.alloc (.cells (dcell dv).toArray 43) := ⟨_, rfl⟩
  have b0 : Below w.heap.size w W0 := by rw [hW0]; exact below_lit w _
  have kD : Blk W0 w.heap.size 43 (dcell dv) := by rw [hW0]; exact heap_alloc_new w _
  have hss := hd.s.keep (Kp.below b0 hS)
  have hS0 : ∀ b, S b → b < W0.heap.size := fun b q => Nat.lt_of_lt_of_le (hS b q) b0.size
  obtain ⟨dk, ⟨s1, s2, s3⟩, ⟨xk, xl, xn, ⟨t1, t2, t3⟩, ⟨k1, k2, k3⟩, ⟨r1, r2, r3⟩, xc, ⟨q1, q2, q3⟩, xb, xa⟩, dn, ⟨l1, l2, l3⟩, ⟨g1, g2, g3⟩⟩ := dv
  have ek := hd.kind
  have en := hd.n
  simp only at ek en
  have HT := Lib.hid hT
  have HW0 := Lib.hid hW0
  have HKD := Lib.hid kD
  have HSS := Lib.hid hss
  have HS0 := Lib.hid hS0
  have HB0 := Lib.hid b0
  have HEK := Lib.hid ek.symm
  have HEN := Lib.hid en.symm
  simp only [dcell, pv] at HKD
  have m0 : W0.cell? ⟨w.heap.size, 0, none⟩ = some (.int .i64 dk) := HKD.out.cell 0
  have m1 : W0.cell? ⟨w.heap.size, 1, none⟩ = some (.slice s1 s2 s3) := HKD.out.cell 1
  have m2 : W0.cell? ⟨w.heap.size, 2, none⟩ = some (.int .i64 xk) := HKD.out.cell 2
  have m3 : W0.cell? ⟨w.heap.size, 3, none⟩ = some (.int .i64 xl) := HKD.out.cell 3
  have m4 : W0.cell? ⟨w.heap.size, 4, none⟩ = some (.int .i64 xn) := HKD.out.cell 4
  have m5 : W0.cell? ⟨w.heap.size, 5, none⟩ = some (.slice t1 t2 t3) := HKD.out.cell 5
  have m6 : W0.cell? ⟨w.heap.size, 6, none⟩ = some (.slice k1 k2 k3) := HKD.out.cell 6
  have m7 : W0.cell? ⟨w.heap.size, 7, none⟩ = some (.slice r1 r2 r3) := HKD.out.cell 7
  have m8 : W0.cell? ⟨w.heap.size, 8, none⟩ = some (.string ⟨xc.toArray⟩) := HKD.out.cell 8
  have m9 : W0.cell? ⟨w.heap.size, 9, none⟩ = some (.slice q1 q2 q3) := HKD.out.cell 9
  have m10 : W0.cell? ⟨w.heap.size, 10, none⟩ = some (.bool xb) := HKD.out.cell 10
  have m11 : W0.cell? ⟨w.heap.size, 11, none⟩ = some (.bool xa) := HKD.out.cell 11
  have m12 : W0.cell? ⟨w.heap.size, 12, none⟩ = some (.int .i64 dn) := HKD.out.cell 12
  have m13 : W0.cell? ⟨w.heap.size, 13, none⟩ = some (.slice l1 l2 l3) := HKD.out.cell 13
  have m14 : W0.cell? ⟨w.heap.size, 14, none⟩ = some (.slice g1 g2 g3) := HKD.out.cell 14
  obtain ⟨RR, hRR⟩ : ∃ r, (bStep t d).2 = r := ⟨_, rfl⟩
  rw [hRR]
  have HRR := Lib.hid hRR
  clear hT hW0 kD hss hS0 b0 ek en hd hS hRR
  go_enter Tryd.func11, Tryd.ntmps11
  go_upto_region 1 with fail
  rw [← HW0.out]
  clear HW0
  by_cases c1 : dk = 1
  · subst c1
    have e11 : ((1 : Int) == 1) = true := rfl
    have HF3 : Hid (RR = false) := Lib.hid (by rw [← HRR.out]; exact bStep_false (by rw [HEK.out]; omega))
    have HSC : Hid (∀ W, Below W0.heap.size W0 W → W.cell? ⟨w.heap.size, 1, none⟩ = some (.slice s1 s2 s3)) := Lib.hid (fun W hb => (HKD.out.below hb).cell 1)
    have HNM : Hid (∀ W (k : Nat), Below W0.heap.size W0 W → k ≤ 3 → Calls Tryd.prog 32 #[.slice s1 s2 s3, .int .i64 (k : Int)] W fun e w' => e = .returned (.string ⟨(nameAt d.s k).toArray⟩) ∧ w' = W) := Lib.hid (fun W k hb hk => lname_any 0 d.s k _ W (HSS.out.keep (Kp.below hb HS0.out)).1 hs hk)
    have hQ := HT.out.title HEK.out
    obtain ⟨n0, hn0⟩ : ∃ q, nameAt d.s 0 = q := ⟨_, rfl⟩
    obtain ⟨n1, hn1⟩ : ∃ q, nameAt d.s 1 = q := ⟨_, rfl⟩
    obtain ⟨n2, hn2⟩ : ∃ q, nameAt d.s 2 = q := ⟨_, rfl⟩
    obtain ⟨n3, hn3⟩ : ∃ q, nameAt d.s 3 = q := ⟨_, rfl⟩
    rw [hn0, hn1, hn2, hn3] at hQ
    have HQ := Lib.hid hQ
    have HN0 : Hid (∀ W, Below W0.heap.size W0 W → Calls Tryd.prog 32 #[.slice s1 s2 s3, .int .i64 0] W fun e w' => e = .returned (.string ⟨n0.toArray⟩) ∧ w' = W) := Lib.hid (fun W hb => by have := HNM.out W 0 hb (by omega); rw [hn0] at this; exact this)
    have HN1 : Hid (∀ W, Below W0.heap.size W0 W → Calls Tryd.prog 32 #[.slice s1 s2 s3, .int .i64 1] W fun e w' => e = .returned (.string ⟨n1.toArray⟩) ∧ w' = W) := Lib.hid (fun W hb => by have := HNM.out W 1 hb (by omega); rw [hn1] at this; exact this)
    have HN2 : Hid (∀ W, Below W0.heap.size W0 W → Calls Tryd.prog 32 #[.slice s1 s2 s3, .int .i64 2] W fun e w' => e = .returned (.string ⟨n2.toArray⟩) ∧ w' = W) := Lib.hid (fun W hb => by have := HNM.out W 2 hb (by omega); rw [hn2] at this; exact this)
    have HN3 : Hid (∀ W, Below W0.heap.size W0 W → Calls Tryd.prog 32 #[.slice s1 s2 s3, .int .i64 3] W fun e w' => e = .returned (.string ⟨n3.toArray⟩) ∧ w' = W) := Lib.hid (fun W hb => by have := HNM.out W 3 hb (by omega); rw [hn3] at this; exact this)
    clear hQ hn0 hn1 hn2 hn3 HNM
    have HX : Hid (Below W0.heap.size W0 W0.drew) := Lib.hid (Below.refl _ W0).drew
    go_upto_region 4 with fail
    refine wp_region_held_drew (S := (fun W' => W'.cell? ⟨w.heap.size, 1, none⟩ = some (.slice s1 s2 s3))) (by kernel_rfl) ?_ (fun hHeld => ?_)
    · exact HSC.out _ HX.out
    refine wpAnyH_take (i := 0) (v := .pointer (some ⟨bb, 0, none⟩)) rfl (by kernel_rfl) (by kernel_rfl) (by kernel_rfl) (fun _ _ _ h => h) (Or.inl ⟨by rfl, fun w' hSw => by (try dsimp only at hSw); go_simp⟩) (by assumption) ?_
    simp only [List.getElem_toArray, List.getElem_cons_succ, List.getElem_cons_zero, Act.put, List.setIfInBounds_toArray, List.set_cons_zero, List.set_cons_succ]
    refine wpAnyH_take (i := 1) (v := .pointer (some ⟨w.heap.size, 1, none⟩)) rfl (by kernel_rfl) (by kernel_rfl) (by kernel_rfl) (fun _ _ _ h => h) (Or.inl ⟨by rfl, fun w' hSw => by (try dsimp only at hSw); go_simp⟩) (by assumption) ?_
    simp only [List.getElem_toArray, List.getElem_cons_succ, List.getElem_cons_zero, Act.put, List.setIfInBounds_toArray, List.set_cons_zero, List.set_cons_succ]
    refine wpAnyH_take (i := 2) (v := .slice s1 s2 s3) rfl (by kernel_rfl) (by kernel_rfl) (by kernel_rfl) (fun _ _ _ h => h) (Or.inl ⟨by rfl, fun w' hSw => by (try dsimp only at hSw); go_simp⟩) (by assumption) ?_
    simp only [List.getElem_toArray, List.getElem_cons_succ, List.getElem_cons_zero, Act.put, List.setIfInBounds_toArray, List.set_cons_zero, List.set_cons_succ]
    refine wpAnyH_take (i := 4) (v := .pointer (some ⟨w.heap.size, 1, none⟩)) rfl (by kernel_rfl) (by kernel_rfl) (by kernel_rfl) (fun _ _ _ h => h) (Or.inl ⟨by rfl, fun w' hSw => by (try dsimp only at hSw); go_simp⟩) (by assumption) ?_
    simp only [List.getElem_toArray, List.getElem_cons_succ, List.getElem_cons_zero, Act.put, List.setIfInBounds_toArray, List.set_cons_zero, List.set_cons_succ]
    refine wpAnyH_take (i := 5) (v := .slice s1 s2 s3) rfl (by kernel_rfl) (by kernel_rfl) (by kernel_rfl) (fun _ _ _ h => h) (Or.inl ⟨by rfl, fun w' hSw => by (try dsimp only at hSw); go_simp⟩) (by assumption) ?_
    simp only [List.getElem_toArray, List.getElem_cons_succ, List.getElem_cons_zero, Act.put, List.setIfInBounds_toArray, List.set_cons_zero, List.set_cons_succ]
    refine wpAnyH_take (i := 7) (v := .pointer (some ⟨w.heap.size, 1, none⟩)) rfl (by kernel_rfl) (by kernel_rfl) (by kernel_rfl) (fun _ _ _ h => h) (Or.inl ⟨by rfl, fun w' hSw => by (try dsimp only at hSw); go_simp⟩) (by assumption) ?_
    simp only [List.getElem_toArray, List.getElem_cons_succ, List.getElem_cons_zero, Act.put, List.setIfInBounds_toArray, List.set_cons_zero, List.set_cons_succ]
    refine wpAnyH_take (i := 8) (v := .slice s1 s2 s3) rfl (by kernel_rfl) (by kernel_rfl) (by kernel_rfl) (fun _ _ _ h => h) (Or.inl ⟨by rfl, fun w' hSw => by (try dsimp only at hSw); go_simp⟩) (by assumption) ?_
    simp only [List.getElem_toArray, List.getElem_cons_succ, List.getElem_cons_zero, Act.put, List.setIfInBounds_toArray, List.set_cons_zero, List.set_cons_succ]
    refine wpAnyH_take (i := 10) (v := .pointer (some ⟨w.heap.size, 1, none⟩)) rfl (by kernel_rfl) (by kernel_rfl) (by kernel_rfl) (fun _ _ _ h => h) (Or.inl ⟨by rfl, fun w' hSw => by (try dsimp only at hSw); go_simp⟩) (by assumption) ?_
    simp only [List.getElem_toArray, List.getElem_cons_succ, List.getElem_cons_zero, Act.put, List.setIfInBounds_toArray, List.set_cons_zero, List.set_cons_succ]
    refine wpAnyH_take (i := 11) (v := .slice s1 s2 s3) rfl (by kernel_rfl) (by kernel_rfl) (by kernel_rfl) (fun _ _ _ h => h) (Or.inl ⟨by rfl, fun w' hSw => by (try dsimp only at hSw); go_simp⟩) (by assumption) ?_
    simp only [List.getElem_toArray, List.getElem_cons_succ, List.getElem_cons_zero, Act.put, List.setIfInBounds_toArray, List.set_cons_zero, List.set_cons_succ]
    refine wpAnyH_ready (rs := [3]) (by kernel_rfl) (by simp) ?_
    refine AllReadyH.cons rfl (fun K hK => ?_) AllReadyH.nil
    try simp only [List.getElem_toArray, List.getElem_cons_succ, List.getElem_cons_zero]
    go_simp
    go_at_call 32
    refine (HN0.out _ HX.out).mono ?_
    rintro e w7 ⟨rfl, hw7⟩
    rw [← hw7] at HX
    clear hw7
    go_wp2_with fail
    refine hK.out _ _ ?_ (fun hHeld => ?_)
    · exact HSC.out _ HX.out
    clear hK K
    try simp only [List.getElem_toArray, List.getElem_cons_succ, List.getElem_cons_zero, Act.put, List.setIfInBounds_toArray, List.set_cons_zero, List.set_cons_succ]
    refine wpAnyH_ready (rs := [6]) (by kernel_rfl) (by simp) ?_
    refine AllReadyH.cons rfl (fun K hK => ?_) AllReadyH.nil
    try simp only [List.getElem_toArray, List.getElem_cons_succ, List.getElem_cons_zero]
    go_simp
    go_at_call 32
    refine (HN1.out _ HX.out).mono ?_
    rintro e w7 ⟨rfl, hw7⟩
    rw [← hw7] at HX
    clear hw7
    go_wp2_with fail
    refine hK.out _ _ ?_ (fun hHeld => ?_)
    · exact HSC.out _ HX.out
    clear hK K
    try simp only [List.getElem_toArray, List.getElem_cons_succ, List.getElem_cons_zero, Act.put, List.setIfInBounds_toArray, List.set_cons_zero, List.set_cons_succ]
    refine wpAnyH_ready (rs := [9]) (by kernel_rfl) (by simp) ?_
    refine AllReadyH.cons rfl (fun K hK => ?_) AllReadyH.nil
    try simp only [List.getElem_toArray, List.getElem_cons_succ, List.getElem_cons_zero]
    go_simp
    go_at_call 32
    refine (HN2.out _ HX.out).mono ?_
    rintro e w7 ⟨rfl, hw7⟩
    rw [← hw7] at HX
    clear hw7
    go_wp2_with fail
    refine hK.out _ _ ?_ (fun hHeld => ?_)
    · exact HSC.out _ HX.out
    clear hK K
    try simp only [List.getElem_toArray, List.getElem_cons_succ, List.getElem_cons_zero, Act.put, List.setIfInBounds_toArray, List.set_cons_zero, List.set_cons_succ]
    refine wpAnyH_ready (rs := [12]) (by kernel_rfl) (by simp) ?_
    refine AllReadyH.cons rfl (fun K hK => ?_) AllReadyH.nil
    try simp only [List.getElem_toArray, List.getElem_cons_succ, List.getElem_cons_zero]
    go_simp
    go_at_call 32
    refine (HN3.out _ HX.out).mono ?_
    rintro e w7 ⟨rfl, hw7⟩
    rw [← hw7] at HX
    clear hw7
    go_wp2_with fail
    refine hK.out _ _ ?_ (fun hHeld => ?_)
    · exact HSC.out _ HX.out
    clear hK K
    try simp only [List.getElem_toArray, List.getElem_cons_succ, List.getElem_cons_zero, Act.put, List.setIfInBounds_toArray, List.set_cons_zero, List.set_cons_succ]
    refine wpAnyH_ready (rs := [13]) (by kernel_rfl) (by simp) ?_
    refine AllReadyH.cons rfl (fun K hK => ?_) AllReadyH.nil
    try simp only [List.getElem_toArray, List.getElem_cons_succ, List.getElem_cons_zero]
    go_simp
    go_at_call 28
    refine (HQ.out _ (HB0.out.trans (HX.out.mono HB0.out.size))).mono ?_
    rintro e w8 ⟨rfl, hp, hfr⟩
    have HP := Lib.hid hp
    have HC8 : Hid (w8.cell? ⟨w.heap.size, 1, none⟩ = some (.slice s1 s2 s3)) := Lib.hid ((World.cell?_of_block (hfr w.heap.size (Nat.le_refl _) (Nat.lt_of_lt_of_le (Array.getElem?_eq_some_iff.1 HKD.out).1 HX.out.size))).trans (HSC.out _ HX.out))
    clear hp hfr
    go_wp2_with fail
    refine hK.out _ _ ?_ (fun hHeld => ?_)
    · exact HC8.out
    clear hK K
    try simp only [List.getElem_toArray, List.getElem_cons_succ, List.getElem_cons_zero, Act.put, List.setIfInBounds_toArray, List.set_cons_zero, List.set_cons_succ]
    refine wpAnyH_done (by kernel_rfl) ?_ _
    go_wp2_with fail
    go_ret
    exact ⟨ret_bool HF3.out.symm, HP.out⟩
  have d1 : (dk == 1) = false := beq_eq_false_iff_ne.2 c1
  by_cases c2 : dk = 2
  · subst c2
    have e21 : ((2 : Int) == 1) = false := rfl
    have e22 : ((2 : Int) == 2) = true := rfl
    have hQ := HT.out.opn HEK.out W0 HB0.out
    skip
    try simp only [ncell, pv] at hQ
    have HQ := Lib.hid hQ
    clear hQ
    have HF3 : Hid (RR = false) := Lib.hid (by rw [← HRR.out]; exact bStep_false (by rw [HEK.out]; omega))
    go_wp2_with fail
    refine HQ.out.mono ?_
    rintro e wq ⟨rfl, hp⟩
    have HP := Lib.hid hp
    clear hp HQ m0 m1 m2 m3 m4 m5 m6 m7 m8 m9 m10 m11 m12 m13 m14
    go_wp2_with fail
    go_ret
    exact ⟨ret_bool HF3.out.symm, HP.out⟩
  have d2 : (dk == 2) = false := beq_eq_false_iff_ne.2 c2
  by_cases c3 : dk = 3
  · subst c3
    have e31 : ((3 : Int) == 1) = false := rfl
    have e32 : ((3 : Int) == 2) = false := rfl
    have e33 : ((3 : Int) == 3) = true := rfl
    have hQ := HT.out.close HEK.out W0 HB0.out
    rw [HEN.out, HRR.out] at hQ
    have HQ := Lib.hid hQ
    clear hQ
    go_wp2_with fail
    refine HQ.out.mono ?_
    rintro e wq ⟨rfl, hp⟩
    have HP := Lib.hid hp
    clear hp HQ m0 m1 m2 m3 m4 m5 m6 m7 m8 m9 m10 m11 m12 m13 m14
    go_wp2_with fail
    go_ret
    exact ⟨rfl, HP.out⟩
  have d3 : (dk == 3) = false := beq_eq_false_iff_ne.2 c3
  by_cases c4 : dk = 4
  · subst c4
    have e41 : ((4 : Int) == 1) = false := rfl
    have e42 : ((4 : Int) == 2) = false := rfl
    have e43 : ((4 : Int) == 3) = false := rfl
    have e44 : ((4 : Int) == 4) = true := rfl
    have hQ := HT.out.shut HEK.out W0 HB0.out
    skip
    try simp only [ncell, pv] at hQ
    have HQ := Lib.hid hQ
    clear hQ
    have HF3 : Hid (RR = false) := Lib.hid (by rw [← HRR.out]; exact bStep_false (by rw [HEK.out]; omega))
    go_wp2_with fail
    refine HQ.out.mono ?_
    rintro e wq ⟨rfl, hp⟩
    have HP := Lib.hid hp
    clear hp HQ m0 m1 m2 m3 m4 m5 m6 m7 m8 m9 m10 m11 m12 m13 m14
    go_wp2_with fail
    go_ret
    exact ⟨ret_bool HF3.out.symm, HP.out⟩
  have d4 : (dk == 4) = false := beq_eq_false_iff_ne.2 c4
  by_cases c5 : dk = 5
  · subst c5
    have e51 : ((5 : Int) == 1) = false := rfl
    have e52 : ((5 : Int) == 2) = false := rfl
    have e53 : ((5 : Int) == 3) = false := rfl
    have e54 : ((5 : Int) == 4) = false := rfl
    have e55 : ((5 : Int) == 5) = true := rfl
    have hQ := HT.out.text HEK.out W0 HB0.out
    rw [HEN.out] at hQ
    try simp only [ncell, pv] at hQ
    have HQ := Lib.hid hQ
    clear hQ
    have HF3 : Hid (RR = false) := Lib.hid (by rw [← HRR.out]; exact bStep_false (by rw [HEK.out]; omega))
    go_wp2_with fail
    refine HQ.out.mono ?_
    rintro e wq ⟨rfl, hp⟩
    have HP := Lib.hid hp
    clear hp HQ m0 m1 m2 m3 m4 m5 m6 m7 m8 m9 m10 m11 m12 m13 m14
    go_wp2_with fail
    go_ret
    exact ⟨ret_bool HF3.out.symm, HP.out⟩
  have d5 : (dk == 5) = false := beq_eq_false_iff_ne.2 c5
  by_cases c6 : dk = 6
  · subst c6
    have e61 : ((6 : Int) == 1) = false := rfl
    have e62 : ((6 : Int) == 2) = false := rfl
    have e63 : ((6 : Int) == 3) = false := rfl
    have e64 : ((6 : Int) == 4) = false := rfl
    have e65 : ((6 : Int) == 5) = false := rfl
    have e66 : ((6 : Int) == 6) = true := rfl
    have hQ := HT.out.nd HEK.out W0 HB0.out
    skip
    try simp only [ncell, pv] at hQ
    have HQ := Lib.hid hQ
    clear hQ
    have HF3 : Hid (RR = false) := Lib.hid (by rw [← HRR.out]; exact bStep_false (by rw [HEK.out]; omega))
    go_wp2_with fail
    refine HQ.out.mono ?_
    rintro e wq ⟨rfl, hp⟩
    have HP := Lib.hid hp
    clear hp HQ m0 m1 m2 m3 m4 m5 m6 m7 m8 m9 m10 m11 m12 m13 m14
    go_wp2_with fail
    go_ret
    exact ⟨ret_bool HF3.out.symm, HP.out⟩
  have d6 : (dk == 6) = false := beq_eq_false_iff_ne.2 c6
  have hQ := HT.out.add (by rw [HEK.out]; exact c1) (by rw [HEK.out]; exact c2) (by rw [HEK.out]; exact c3) (by rw [HEK.out]; exact c4) (by rw [HEK.out]; exact c5) (by rw [HEK.out]; exact c6) W0 HB0.out
  skip
  try simp only [ncell, pv] at hQ
  have HQ := Lib.hid hQ
  clear hQ
  have HF3 : Hid (RR = false) := Lib.hid (by rw [← HRR.out]; exact bStep_false (by rw [HEK.out]; exact c3))
  go_wp2_with fail
  refine HQ.out.mono ?_
  rintro e wq ⟨rfl, hp⟩
  have HP := Lib.hid hp
  clear hp HQ m0 m1 m2 m3 m4 m5 m6 m7 m8 m9 m10 m11 m12 m13 m14
  go_wp2_with fail
  go_ret
  exact ⟨ret_bool HF3.out.symm, HP.out⟩
end Go.Proofs.YtpccjgoeoeehoaaDoor
namespace Go.Proofs.YtpccjgoeoeehoaaDoor
open Go.RowKit
/-- All blocks that were there stand, but those of X. -/
structure Exq (X : Nat → Prop) (w w' : World) : Prop where
  os : w'.os = w.os
  tape : w'.tape = w.tape
  output : w'.output = w.output
  size : w.heap.size ≤ w'.heap.size
  block : ∀ k, k < w.heap.size → ¬ X k → w'.heap[k]? = w.heap[k]?
theorem Exq.below {X : Nat → Prop} {w w' : World} {D : Nat} (h : Exq X w w') (hD : D ≤ w.heap.size) (hX : ∀ b, X b → D ≤ b) : Below D w w' :=
  ⟨h.os, h.tape, h.output, h.size, fun k hk => h.block k (Nat.lt_of_lt_of_le hk hD) (fun q => by have := hX k q; omega)⟩
theorem Exq.of {X : Nat → Prop} {w w' : World} (h : Below w.heap.size w w') : Exq X w w' := ⟨h.os, h.tape, h.output, h.size, fun k hk _ => h.block k hk⟩
theorem Exq.pre {X : Nat → Prop} {w W w' : World} (hb : Below w.heap.size w W) (h : Exq X W w') : Exq X w w' :=
  ⟨h.os.trans hb.os, h.tape.trans hb.tape, h.output.trans hb.output, Nat.le_trans hb.size h.size, fun k hk hx => (h.block k (Nat.lt_of_lt_of_le hk hb.size) hx).trans (hb.block k hk)⟩
/-- A builder that was told nothing. -/
def bt0 : Bt := ⟨⟨[], [], [], []⟩, [], [], [], 0, false⟩
abbrev BIT := (Nat → Prop) → (Nat → Prop) → World → Nat → Bt → Prop
/-- What there is behind a call: X writable, R read, S what came in. -/
def Aft (BI : BIT) (X R S : Nat → Prop) (w : World) (b : Nat) (t' : Bt) (w' : World) : Prop :=
  ∃ X' R', BI X' R' w' b t' ∧ Exq X w w' ∧ (∀ k, X' k → X k ∨ w.heap.size ≤ k) ∧ (∀ k, R' k → R k ∨ S k ∨ X k ∨ w.heap.size ≤ k)
abbrev ptrV (b : Nat) : Value := .pointer (some ⟨b, 0, none⟩)
structure Impl (BI : BIT) (TB : World → Prop) : Prop where
  lt : ∀ {X R w b t}, BI X R w b t → ∀ k, X k ∨ R k → k < w.heap.size
  keep : ∀ {X R w w' b t}, BI X R w b t → Kp X w w' → Kp R w w' → w.heap.size ≤ w'.heap.size → BI X R w' b t
  new : ∀ w, Calls Tryd.prog 10 #[] w fun e w' => ∃ b X, e = .returned (ptrV b) ∧ BI X (fun _ => False) w' b bt0 ∧ Below w.heap.size w w' ∧ ∀ k, X k → w.heap.size ≤ k
  title : ∀ {X R w b t} (n0 n1 n2 n3 : List UInt8), BI X R w b t → TB w → Calls Tryd.prog 28 #[ptrV b, .string ⟨n0.toArray⟩, .string ⟨n1.toArray⟩, .string ⟨n2.toArray⟩, .string ⟨n3.toArray⟩] w fun e w' => e = .returned (.tuple #[]) ∧ Aft BI X R (fun _ => False) w b { t with nm := ⟨n0, n1, n2, n3⟩ } w'
  opn : ∀ {X R S w b t nv y}, BI X R w b t → TB w → NdIs S w nv y → (∀ k, S k → k < w.heap.size ∧ ¬ X k) → btl t + nlN y ≤ 30000 → Calls Tryd.prog 30 #[ptrV b, .agg (ncell nv).toArray] w fun e w' => e = .returned (.tuple #[]) ∧ Aft BI X R S w b (bOpen t y) w'
  add : ∀ {X R S w b t nv y}, BI X R w b t → TB w → NdIs S w nv y → (∀ k, S k → k < w.heap.size ∧ ¬ X k) → btl t + nlN y ≤ 30000 → Calls Tryd.prog 20 #[ptrV b, .agg (ncell nv).toArray] w fun e w' => e = .returned (.tuple #[]) ∧ Aft BI X R S w b (bAdd t y) w'
  close : ∀ {X R w b t} (k : Int), BI X R w b t → TB w → btl t ≤ 30000 → Calls Tryd.prog 27 #[ptrV b, .int .i64 k] w fun e w' => e = .returned (.bool (bClose t k).2) ∧ Aft BI X R (fun _ => False) w b (bClose t k).1 w'
  shut : ∀ {X R S w b t v} (K : List Int), BI X R w b t → TB w → FsS S 1 icell w v K → (∀ k, S k → k < w.heap.size ∧ ¬ X k) → K.length ≤ 30000 → btl t ≤ 30000 → Calls Tryd.prog 23 #[ptrV b, v] w fun e w' => e = .returned (.tuple #[]) ∧ Aft BI X R S w b (bShut t K) w'
  text : ∀ {X R S w b t v} (g : List Gly) (i : Int), BI X R w b t → TB w → FsS S 2 gcell w v g → (∀ k, S k → k < w.heap.size ∧ ¬ X k) → btl t + g.length ≤ 30000 → Calls Tryd.prog 24 #[ptrV b, v, .int .i64 i] w fun e w' => e = .returned (.tuple #[]) ∧ Aft BI X R S w b (bText t g i) w'
  nd : ∀ {X R w b t}, BI X R w b t → TB w → btl t ≤ 30000 → Calls Tryd.prog 22 #[ptrV b] w fun e w' => e = .returned (.tuple #[]) ∧ Aft BI X R (fun _ => False) w b (bEnd t) w'
  depth : ∀ {X R w b t}, BI X R w b t → TB w → Calls Tryd.prog 13 #[ptrV b] w fun e w' => e = .returned (.int .i64 (t.opn.length : Int)) ∧ Below w.heap.size w w'
  inside : ∀ {X R w b t} (k : Int), BI X R w b t → TB w → btl t ≤ 30000 → Calls Tryd.prog 14 #[ptrV b, .int .i64 k] w fun e w' => e = .returned (.bool (bIn t k)) ∧ Below w.heap.size w w'
  doc : ∀ {X R w b t}, BI X R w b t → TB w → btl t ≤ 30000 → Calls Tryd.prog 17 #[ptrV b] w fun e w' => ∃ s : PV, e = .returned (docV t.nm (pv s)) ∧ NsS (fun k => w.heap.size ≤ k ∧ k < w'.heap.size) w' (pv s) (bDoc t) ∧ Below w.heap.size w w'
  tb : ∀ {w w'}, TB w → Below w.heap.size w w' → TB w'
theorem Aft.pre {BI : BIT} {X R S S' : Nat → Prop} {w W w' : World} {b : Nat} {t' : Bt} (hb : Below w.heap.size w W) (hS : ∀ k, S k → S' k) (h : Aft BI X R S W b t' w') : Aft BI X R S' w b t' w' := by
  obtain ⟨X', R', h1, h2, h3, h4⟩ := h
  exact ⟨X', R', h1, h2.pre hb, fun k q => (h3 k q).imp id (fun z => Nat.le_trans hb.size z), fun k q => (h4 k q).imp id (fun z => z.imp (hS k) (fun z => z.imp id (fun z => Nat.le_trans hb.size z)))⟩
/-- Told by what a builder's functions do. -/
theorem Impl.told {BI : BIT} {TB : World → Prop} (I : Impl BI TB) {X R S : Nat → Prop} {w : World} {b : Nat} {t : Bt} {dv : DV} {d : Dd} (h : BI X R w b t) (hT : TB w) (hd : DdIs S w dv d) (hS : ∀ k, S k → k < w.heap.size ∧ ¬ X k) (hb : btl t + ddl d ≤ 30000) :
    Told (Aft BI X R S w b) (ptrV b) t dv d w := by
  have K : ∀ W, Below w.heap.size w W → BI X R W b t := fun W q => I.keep h (Kp.below q (fun k z => I.lt h k (.inl z))) (Kp.below q (fun k z => I.lt h k (.inr z))) q.size
  have D : ∀ W, Below w.heap.size w W → DdIs S W dv d := fun W q => hd.keep (Kp.below q (fun k z => (hS k z).1))
  have SS : ∀ W, Below w.heap.size w W → ∀ k, S k → k < W.heap.size ∧ ¬ X k := fun W q k z => ⟨Nat.lt_of_lt_of_le (hS k z).1 q.size, (hS k z).2⟩
  have hdd : ddl d = 2 + d.g.length + d.l.length + nlN d.x := rfl
  have F : ∀ k : Nat, (fun _ : Nat => False) k → S k := fun _ q => q.elim
  refine ⟨fun e W q => ?_, fun e W q => ?_, fun e W q => ?_, fun e W q => ?_, fun e W q => ?_, fun e W q => ?_, fun e1 e2 e3 e4 e5 e6 W q => ?_⟩
  · have hs : (bStep t d).1 = { t with nm := ⟨nameAt d.s 0, nameAt d.s 1, nameAt d.s 2, nameAt d.s 3⟩ } := by unfold bStep; rw [if_pos e]
    rw [hs]
    refine (I.title _ _ _ _ (K W q) (I.tb hT q)).mono fun e w' ⟨h1, h2⟩ => ⟨h1, h2.pre q F, fun k hk1 hk2 => ?_⟩
    obtain ⟨X', R', -, h4, -, -⟩ := h2
    exact h4.block k hk2 (fun z => by have := I.lt h k (.inl z); omega)
  · have hs : (bStep t d).1 = bOpen t d.x := by unfold bStep; rw [if_neg (by omega), if_pos e]
    rw [hs]
    exact (I.opn (K W q) (I.tb hT q) (D W q).x (SS W q) (by omega)).mono fun e w' ⟨h1, h2⟩ => ⟨h1, h2.pre q (fun _ z => z)⟩
  · have hs : bStep t d = bClose t d.n := by unfold bStep; rw [if_neg (by omega), if_neg (by omega), if_pos e]
    rw [hs]
    exact (I.close _ (K W q) (I.tb hT q) (by omega)).mono fun e w' ⟨h1, h2⟩ => ⟨h1, h2.pre q F⟩
  · have hs : (bStep t d).1 = bShut t d.l := by unfold bStep; rw [if_neg (by omega), if_neg (by omega), if_neg (by omega), if_pos e]
    rw [hs]
    exact (I.shut d.l (K W q) (I.tb hT q) (D W q).l (SS W q) (by omega) (by omega)).mono fun e w' ⟨h1, h2⟩ => ⟨h1, h2.pre q (fun _ z => z)⟩
  · have hs : (bStep t d).1 = bText t d.g d.n := by unfold bStep; rw [if_neg (by omega), if_neg (by omega), if_neg (by omega), if_neg (by omega), if_pos e]
    rw [hs]
    exact (I.text d.g d.n (K W q) (I.tb hT q) (D W q).g (SS W q) (by omega)).mono fun e w' ⟨h1, h2⟩ => ⟨h1, h2.pre q (fun _ z => z)⟩
  · have hs : (bStep t d).1 = bEnd t := by unfold bStep; rw [if_neg (by omega), if_neg (by omega), if_neg (by omega), if_neg (by omega), if_neg (by omega), if_pos e]
    rw [hs]
    exact (I.nd (K W q) (I.tb hT q) (by omega)).mono fun e w' ⟨h1, h2⟩ => ⟨h1, h2.pre q F⟩
  · have hs : (bStep t d).1 = bAdd t d.x := by unfold bStep; rw [if_neg e1, if_neg e2, if_neg e3, if_neg e4, if_neg e5, if_neg e6]
    rw [hs]
    exact (I.add (K W q) (I.tb hT q) (D W q).x (SS W q) (by omega)).mono fun e w' ⟨h1, h2⟩ => ⟨h1, h2.pre q (fun _ z => z)⟩
theorem btl_step (t : Bt) (d : Dd) : btl (bStep t d).1 ≤ btl t + ddl d + 3 := by
  have hdd : ddl d = 2 + d.g.length + d.l.length + nlN d.x := rfl
  have h1 := btl_open t d.x
  have h2 := btl_close t d.n
  have h3 := btl_shut t d.l
  have h4 := btl_text t d.g d.n
  have h5 := btl_end t
  have h6 := btl_add t d.x
  have h7 : btl { t with nm := ⟨nameAt d.s 0, nameAt d.s 1, nameAt d.s 2, nameAt d.s 3⟩ } = btl t := rfl
  unfold bStep
  repeat' split
  all_goals first | omega | (simp only; omega)
end Go.Proofs.YtpccjgoeoeehoaaDoor
namespace Go.Proofs.YtpccjgoeoeehoaaDoor
open Go.RowKit
def blcell (b : Bool) : List Value := [.bool b]
theorem blcell_len (b : Bool) : (blcell b).length = 1 := rfl
end Go.Proofs.YtpccjgoeoeehoaaDoor
namespace Go.Proofs.YtpccjgoeoeehoaaDoor
open Go.RowKit
theorem ns_lit8 {S : Nat → Prop} (w : World) (L : List NV) (l : List Nd) (hl : L.length = l.length) (hS : ∀ b, S b → b < w.heap.size) (hh : ∀ (i : Nat) x y, L[i]? = some x → l[i]? = some y → HdIs S w x y.hd ∧ NsS S w (pv x.kids) y.kids) :
    NsS (fun b => S b ∨ b = w.heap.size) (w.alloc (.cells (flatV ncell L).toArray 40)) (.slice (some ⟨w.heap.size, 0, none⟩) L.length L.length) l := by
  have hk : Kp S w (w.alloc (.cells (flatV ncell L).toArray 40)) := Kp.below (below_lit w _) hS
  refine .mk _ _ L hl ⟨fs_lit ncell_len w _ L, fun a k c e _ => ?_⟩ (fun i x y a b => ((hh i x y a b).1.keep hk).mono (fun b q => .inl q)) (fun i x y a b => ((hh i x y a b).2.keep hk).mono (fun b q => .inl q))
  injection e with e1
  injection e1 with e1
  subst e1
  exact ⟨.inr rfl, fun _ i _ => by
    have h := heap_alloc_new w (.cells (flatV ncell L).toArray 40)
    simp only [World.frozen?, h]
    simp⟩
theorem one_at8 {α β : Type} {x x' : α} {y y' : β} {i : Nat} (h : [x][i]? = some x') (k : [y][i]? = some y') : x = x' ∧ y = y' := by
  match i with
  | 0 => simp at h k; exact ⟨h, k⟩
  | i + 1 => simp at h
def gl8 (r : Int) : List Gly := [(r, 0)]
theorem gly8 (W : World) (r : Int) : FsS (fun k => k = W.heap.size) 2 gcell (W.alloc (.cells #[.int .i32 r, .int .u8 0] 56)) (.slice (some ⟨W.heap.size, 0, none⟩) 1 1) (gl8 r) := by
  refine ⟨fs_lit gcell_len W 56 (gl8 r), fun a k c e _ => ?_⟩
  injection e with e1
  injection e1 with e1
  subst e1
  exact ⟨rfl, fun _ i _ => by
    have h := heap_alloc_new W (.cells #[.int .i32 r, .int .u8 0] 56)
    simp only [World.frozen?, h]
    simp⟩
def ab8 : List Gly := [(97, 0), (32, 0), (98, 0)]
theorem glys8 (W : World) : FsS (fun k => k = W.heap.size) 2 gcell (W.alloc (.cells #[.int .i32 97, .int .u8 0, .int .i32 32, .int .u8 0, .int .i32 98, .int .u8 0] 56)) (.slice (some ⟨W.heap.size, 0, none⟩) 3 3) ab8 := by
  refine ⟨fs_lit gcell_len W 56 ab8, fun a k c e _ => ?_⟩
  injection e with e1
  injection e1 with e1
  subst e1
  exact ⟨rfl, fun _ i _ => by
    have h := heap_alloc_new W (.cells #[.int .i32 97, .int .u8 0, .int .i32 32, .int .u8 0, .int .i32 98, .int .u8 0] 56)
    simp only [World.frozen?, h]
    simp⟩
def hd8 (k ln : Int) (t : List Gly) : Hd := ⟨k, ln, 0, t, [], noGrid⟩
def y8 : Nd := .mk (hd8 1 0 (gl8 120)) []
def t8 : Bt := bText (bText (bOpen bt0 y8) (gl8 97) 4) (gl8 98) 5
def want8 : List Nd := [.mk (hd8 1 0 (gl8 120)) [.mk (hd8 3 4 ab8) []]]
theorem all8 : bAll (bEnd t8) = want8 := by rfl
theorem doc8 : bDoc t8 = want8 := by
  unfold bDoc
  rw [all8]
  unfold tidyL want8
  simp only [tdL_cons, tdL_nil, tdN_mk]
  rfl
theorem nm8 : t8.nm = ⟨[], [], [], []⟩ := rfl
theorem opn8 : t8.opn.length = 1 := rfl
def nv8 (k ln : Int) (t s : PV) : NV := ⟨k, ln, 0, t, s, (none, 0, 0), [], (none, 0, 0), false, false⟩
theorem hdis8 {S : Nat → Prop} {w : World} (k ln : Int) {t s : PV} {g : List Gly} (h : FsS S 2 gcell w (pv t) g) : HdIs S w (nv8 k ln t s) (hd8 k ln g) := ⟨rfl, rfl, rfl, h, GrS.nil _ _, rfl, TrS.nil _ _, rfl, rfl⟩
/-- What is wanted, as the law builds it. -/
theorem want_is (W0 W4 : World) (h : W4 = (((W0.alloc (.cells #[.int .i32 120, .int .u8 0] 56)).alloc (.cells #[.int .i32 97, .int .u8 0, .int .i32 32, .int .u8 0, .int .i32 98, .int .u8 0] 56)).alloc (.cells #[.int .i64 3, .int .i64 4, .int .i64 0, .slice (some ⟨W0.heap.size + 1, 0, none⟩) 3 3, .slice none 0 0, .slice none 0 0, .string ⟨#[]⟩, .slice none 0 0, .bool false, .bool false] 40)).alloc (.cells #[.int .i64 1, .int .i64 0, .int .i64 0, .slice (some ⟨W0.heap.size, 0, none⟩) 1 1, .slice (some ⟨W0.heap.size + 1 + 1, 0, none⟩) 1 1, .slice none 0 0, .string ⟨#[]⟩, .slice none 0 0, .bool false, .bool false] 40)) :
    NsS (fun b => b < W4.heap.size) W4 (.slice (some ⟨W0.heap.size + 1 + 1 + 1, 0, none⟩) 1 1) want8 ∧ Below W0.heap.size W0 W4 := by
  obtain ⟨W1, hW1⟩ : ∃ W, W = W0.alloc (.cells #[.int .i32 120, .int .u8 0] 56) := ⟨_, rfl⟩
  have z1 : W1.heap.size = W0.heap.size + 1 := by rw [hW1, World.size_alloc]
  have b1 : Below W0.heap.size W0 W1 := by rw [hW1]; exact below_lit _ _
  have g1 := gly8 W0 120
  rw [← hW1] at g1 h
  obtain ⟨W2, hW2⟩ : ∃ W, W = W1.alloc (.cells #[.int .i32 97, .int .u8 0, .int .i32 32, .int .u8 0, .int .i32 98, .int .u8 0] 56) := ⟨_, rfl⟩
  have z2 : W2.heap.size = W1.heap.size + 1 := by rw [hW2, World.size_alloc]
  have b2 : Below W1.heap.size W1 W2 := by rw [hW2]; exact below_lit _ _
  have g2 := glys8 W1
  rw [← hW2] at g2 h
  have g1' : FsS (fun b => b < W2.heap.size) 2 gcell W2 (.slice (some ⟨W0.heap.size, 0, none⟩) 1 1) (gl8 120) := (g1.keep (Kp.below b2 (fun b q => by omega))).mono (fun b q => by omega)
  have g2' : FsS (fun b => b < W2.heap.size) 2 gcell W2 (.slice (some ⟨W1.heap.size, 0, none⟩) 3 3) ab8 := g2.mono (fun b q => by omega)
  obtain ⟨W3, hW3⟩ : ∃ W, W = W2.alloc (.cells (flatV ncell [nv8 3 4 (some ⟨W1.heap.size, 0, none⟩, 3, 3) (none, 0, 0)]).toArray 40) := ⟨_, rfl⟩
  have z3 : W3.heap.size = W2.heap.size + 1 := by rw [hW3, World.size_alloc]
  have b3 : Below W2.heap.size W2 W3 := by rw [hW3]; exact below_lit _ _
  have hN3 : NsS (fun b => b < W3.heap.size) W3 (.slice (some ⟨W2.heap.size, 0, none⟩) 1 1) [.mk (hd8 3 4 ab8) []] := by
    have := ns_lit8 W2 [nv8 3 4 (some ⟨W1.heap.size, 0, none⟩, 3, 3) (none, 0, 0)] [.mk (hd8 3 4 ab8) []] rfl (fun b q => q) (fun i x y a b => by
      obtain ⟨rfl, rfl⟩ := one_at8 a b
      exact ⟨hdis8 3 4 g2', NsS.nil _ _⟩)
    rw [← hW3] at this
    exact this.mono (fun b q => by rcases q with q | q <;> omega)
  have g3 : FsS (fun b => b < W3.heap.size) 2 gcell W3 (.slice (some ⟨W0.heap.size, 0, none⟩) 1 1) (gl8 120) := (g1'.keep (Kp.below b3 (fun b q => q))).mono (fun b q => by omega)
  have h4 : W4 = W3.alloc (.cells (flatV ncell [nv8 1 0 (some ⟨W0.heap.size, 0, none⟩, 1, 1) (some ⟨W2.heap.size, 0, none⟩, 1, 1)]).toArray 40) := by
    rw [h, hW3, z2, z1]
    rfl
  have z4 : W4.heap.size = W3.heap.size + 1 := by rw [h4, World.size_alloc]
  have b4 : Below W3.heap.size W3 W4 := by rw [h4]; exact below_lit _ _
  have hN4 : NsS (fun b => b < W4.heap.size) W4 (.slice (some ⟨W3.heap.size, 0, none⟩) 1 1) want8 := by
    have := ns_lit8 W3 [nv8 1 0 (some ⟨W0.heap.size, 0, none⟩, 1, 1) (some ⟨W2.heap.size, 0, none⟩, 1, 1)] want8 rfl (fun b q => q) (fun i x y a b => by
      obtain ⟨rfl, rfl⟩ := one_at8 a b
      exact ⟨hdis8 1 0 g3, hN3⟩)
    rw [← h4] at this
    exact this.mono (fun b q => by rcases q with q | q <;> omega)
  rw [show W3.heap.size = W0.heap.size + 1 + 1 + 1 by omega] at hN4
  exact ⟨hN4, b1.trans ((b2.trans ((b3.trans (b4.mono (by omega))).mono (by omega))).mono (by omega))⟩
set_option maxRecDepth 100000 in
set_option maxHeartbeats 8000000 in
theorem bknown_any (BI : BIT) (TB : World → Prop) (I : Impl BI TB) (hNil : ∀ W, TB W → Calls Tryd.prog 13 #[.pointer none] W fun e w' => e = .returned (.int .i64 0) ∧ Below W.heap.size W w') (w : World) (hTB : TB w) :
    Calls Tryd.prog 9 #[] w fun e w' => e = .returned (.bool true) ∧ Below w.heap.size w w' := by
  have HTB := Lib.hid hTB
  have HNI := Lib.hid hNil
  clear hTB hNil
  have HNW := Lib.hid (I.new w)
  go_enter Tryd.func9, Tryd.ntmps9
  go_wp2_with fail
  refine HNW.out.mono ?_
  rintro e w2 ⟨b, X, rfl, h1, h2, h3⟩
  have HBI := Lib.hid h1
  have HBW := Lib.hid h2
  have HX := Lib.hid h3
  clear h1 h2 h3 HNW
  obtain ⟨we, hwe⟩ : ∃ W : World, W = w2 := ⟨_, rfl⟩
  rw [← hwe] at HBI HBW ⊢
  clear hwe
  obtain ⟨X7, hX7⟩ : ∃ Y, Y = we.alloc (.cells #[.int .i32 120, .int .u8 0] 56) := ⟨_, rfl⟩
  have b7 : Below we.heap.size we X7 := by rw [hX7]; exact below_lit _ _
  have hz7 : X7.heap.size = we.heap.size + 1 := by rw [hX7, World.size_alloc]
  have hI9 := gly8 we 120
  rw [← hX7] at hI9
  have hlt7 : ∀ k, _ → k < we.heap.size := fun k z => I.lt HBI.out k (.inl z)
  have hBIn := I.keep HBI.out (Kp.below b7 (fun k q => I.lt HBI.out k (.inl q))) (Kp.below b7 (fun k q => I.lt HBI.out k (.inr q))) b7.size
  have hBWn := HBW.out.trans (b7.mono HBW.out.size)
  clear HBI HBW
  have HBI := Lib.hid hBIn
  have HBW := Lib.hid hBWn
  clear hBIn hBWn
  have hcl := I.opn (nv := nv8 1 0 (some ⟨we.heap.size, 0, none⟩, 1, 1) (none, 0, 0)) (y := y8) HBI.out (I.tb HTB.out HBW.out) ⟨hdis8 1 0 hI9, NsS.nil _ _⟩ (fun k z => ⟨by omega, fun z2 => by have := hlt7 k z2; omega⟩) (by decide)
  have HCL := Lib.hid hcl
  have HX7 := Lib.hid hX7
  clear hX7 b7 hz7 hI9 hlt7 hcl
  go_wp2_with fail
  rw [← HX7.out]
  clear HX7
  refine HCL.out.mono ?_
  rintro e we ⟨rfl, X2, R2, g1, g2, g3, g4⟩
  have hBWn := g2.below HBW.out.size HX.out
  have hX2w : ∀ k, X2 k → w.heap.size ≤ k := fun k q => (g3 k q).elim (HX.out k) (fun z => Nat.le_trans HBW.out.size z)
  have hBW2 := HBW.out.trans hBWn
  clear HBI HBW HX
  have HBI := Lib.hid g1
  have HBW := Lib.hid hBW2
  have HX := Lib.hid hX2w
  clear g1 g2 g3 g4 hBWn hX2w hBW2 HCL
  obtain ⟨X7, hX7⟩ : ∃ Y, Y = we.alloc (.cells #[.int .i32 97, .int .u8 0] 56) := ⟨_, rfl⟩
  have b7 : Below we.heap.size we X7 := by rw [hX7]; exact below_lit _ _
  have hz7 : X7.heap.size = we.heap.size + 1 := by rw [hX7, World.size_alloc]
  have hI9 := gly8 we 97
  rw [← hX7] at hI9
  have hlt7 : ∀ k, _ → k < we.heap.size := fun k z => I.lt HBI.out k (.inl z)
  have hBIn := I.keep HBI.out (Kp.below b7 (fun k q => I.lt HBI.out k (.inl q))) (Kp.below b7 (fun k q => I.lt HBI.out k (.inr q))) b7.size
  have hBWn := HBW.out.trans (b7.mono HBW.out.size)
  clear HBI HBW
  have HBI := Lib.hid hBIn
  have HBW := Lib.hid hBWn
  clear hBIn hBWn
  have hcl := I.text (gl8 97) 4 HBI.out (I.tb HTB.out HBW.out) hI9 (fun k z => ⟨by omega, fun z2 => by have := hlt7 k z2; omega⟩) (by decide)
  have HCL := Lib.hid hcl
  have HX7 := Lib.hid hX7
  clear hX7 b7 hz7 hI9 hlt7 hcl
  go_wp2_with fail
  rw [← HX7.out]
  clear HX7
  refine HCL.out.mono ?_
  rintro e we ⟨rfl, X2, R2, g1, g2, g3, g4⟩
  have hBWn := g2.below HBW.out.size HX.out
  have hX2w : ∀ k, X2 k → w.heap.size ≤ k := fun k q => (g3 k q).elim (HX.out k) (fun z => Nat.le_trans HBW.out.size z)
  have hBW2 := HBW.out.trans hBWn
  clear HBI HBW HX
  have HBI := Lib.hid g1
  have HBW := Lib.hid hBW2
  have HX := Lib.hid hX2w
  clear g1 g2 g3 g4 hBWn hX2w hBW2 HCL
  obtain ⟨X7, hX7⟩ : ∃ Y, Y = we.alloc (.cells #[.int .i32 98, .int .u8 0] 56) := ⟨_, rfl⟩
  have b7 : Below we.heap.size we X7 := by rw [hX7]; exact below_lit _ _
  have hz7 : X7.heap.size = we.heap.size + 1 := by rw [hX7, World.size_alloc]
  have hI9 := gly8 we 98
  rw [← hX7] at hI9
  have hlt7 : ∀ k, _ → k < we.heap.size := fun k z => I.lt HBI.out k (.inl z)
  have hBIn := I.keep HBI.out (Kp.below b7 (fun k q => I.lt HBI.out k (.inl q))) (Kp.below b7 (fun k q => I.lt HBI.out k (.inr q))) b7.size
  have hBWn := HBW.out.trans (b7.mono HBW.out.size)
  clear HBI HBW
  have HBI := Lib.hid hBIn
  have HBW := Lib.hid hBWn
  clear hBIn hBWn
  have hcl := I.text (gl8 98) 5 HBI.out (I.tb HTB.out HBW.out) hI9 (fun k z => ⟨by omega, fun z2 => by have := hlt7 k z2; omega⟩) (by decide)
  have HCL := Lib.hid hcl
  have HX7 := Lib.hid hX7
  clear hX7 b7 hz7 hI9 hlt7 hcl
  go_wp2_with fail
  rw [← HX7.out]
  clear HX7
  refine HCL.out.mono ?_
  rintro e we ⟨rfl, X2, R2, g1, g2, g3, g4⟩
  have hBWn := g2.below HBW.out.size HX.out
  have hX2w : ∀ k, X2 k → w.heap.size ≤ k := fun k q => (g3 k q).elim (HX.out k) (fun z => Nat.le_trans HBW.out.size z)
  have hBW2 := HBW.out.trans hBWn
  clear HBI HBW HX
  have HBI := Lib.hid g1
  have HBW := Lib.hid hBW2
  have HX := Lib.hid hX2w
  clear g1 g2 g3 g4 hBWn hX2w hBW2 HCL
  have HBI8 : Hid (BI X2 R2 we b t8) := HBI
  clear HBI
  have HBI := HBI8
  clear HBI8
  have hdc := I.doc HBI.out (I.tb HTB.out HBW.out) (by decide)
  rw [nm8, doc8] at hdc
  unfold docV docL at hdc
  have HDC := Lib.hid hdc
  clear hdc
  go_wp2_with fail
  refine HDC.out.mono ?_
  rintro e wd ⟨⟨s1, s2, s3⟩, rfl, hn1, hbd⟩
  simp only [pv] at hn1 ⊢
  clear HDC
  have hBIn := I.keep HBI.out (Kp.below hbd (fun k q => I.lt HBI.out k (.inl q))) (Kp.below hbd (fun k q => I.lt HBI.out k (.inr q))) hbd.size
  have hBWn := HBW.out.trans (hbd.mono HBW.out.size)
  clear HBI HBW
  have HBI := Lib.hid hBIn
  have HBW := Lib.hid hBWn
  clear hBIn hBWn
  obtain ⟨X5, hX5⟩ : ∃ Y, Y = wd.alloc (.cells #[.string ⟨#[]⟩, .string ⟨#[]⟩, .string ⟨#[]⟩, .string ⟨#[]⟩, .slice s1 s2 s3] 29) := ⟨_, rfl⟩
  have b5 : Below wd.heap.size wd X5 := by rw [hX5]; exact below_lit _ _
  obtain ⟨o1, ho1⟩ : ∃ q, wd.heap.size = q := ⟨_, rfl⟩
  have hKD : Blk X5 o1 29 [.string ⟨#[]⟩, .string ⟨#[]⟩, .string ⟨#[]⟩, .string ⟨#[]⟩, .slice s1 s2 s3] := by rw [← ho1, hX5]; exact heap_alloc_new wd _
  have hN5 : NsS (fun k => k < X5.heap.size) X5 (.slice s1 s2 s3) want8 := (hn1.keep (Kp.below b5 (fun k q => q.2))).mono (fun k q => Nat.lt_of_lt_of_le q.2 b5.size)
  have hBIn := I.keep HBI.out (Kp.below b5 (fun k q => I.lt HBI.out k (.inl q))) (Kp.below b5 (fun k q => I.lt HBI.out k (.inr q))) b5.size
  have hBWn := HBW.out.trans (b5.mono HBW.out.size)
  clear HBI HBW
  have HBI := Lib.hid hBIn
  have HBW := Lib.hid hBWn
  clear hBIn hBWn
  obtain ⟨X6, hX6⟩ : ∃ W4, W4 = (((X5.alloc (.cells #[.int .i32 120, .int .u8 0] 56)).alloc (.cells #[.int .i32 97, .int .u8 0, .int .i32 32, .int .u8 0, .int .i32 98, .int .u8 0] 56)).alloc (.cells #[.int .i64 3, .int .i64 4, .int .i64 0, .slice (some ⟨X5.heap.size + 1, 0, none⟩) 3 3, .slice none 0 0, .slice none 0 0, .string ⟨#[]⟩, .slice none 0 0, .bool false, .bool false] 40)).alloc (.cells #[.int .i64 1, .int .i64 0, .int .i64 0, .slice (some ⟨X5.heap.size, 0, none⟩) 1 1, .slice (some ⟨X5.heap.size + 1 + 1, 0, none⟩) 1 1, .slice none 0 0, .string ⟨#[]⟩, .slice none 0 0, .bool false, .bool false] 40) := ⟨_, rfl⟩
  obtain ⟨hw4, b6⟩ := want_is X5 X6 hX6
  have c4 : X6.cell? ⟨o1, 4, none⟩ = some (.slice s1 s2 s3) := (hKD.below b6).cell 4
  have hsm := rsame_any _ _ _ want8 want8 rfl (by decide) (by decide) _ _ X6 ((hN5.keep (Kp.below b6 (fun k q => q))).mono (T := fun k => k < X6.heap.size) (fun k q => Nat.lt_of_lt_of_le q b6.size)) hw4 (fun k q => q) (fun k q => q)
  rw [eqNs_true rfl] at hsm
  have HSM := Lib.hid hsm
  have hBIn := I.keep HBI.out (Kp.below b6 (fun k q => I.lt HBI.out k (.inl q))) (Kp.below b6 (fun k q => I.lt HBI.out k (.inr q))) b6.size
  have hBWn := HBW.out.trans (b6.mono HBW.out.size)
  clear HBI HBW
  have HBI := Lib.hid hBIn
  have HBW := Lib.hid hBWn
  clear hBIn hBWn
  have HX5 := Lib.hid hX5
  have HX6 := Lib.hid hX6
  have HO1 := Lib.hid ho1
  clear hn1 hbd hX5 b5 hKD hN5 hX6 hw4 b6 hsm ho1
  go_upto_region 6 with fail
  rw [← HX5.out]
  try rw [HO1.out]
  go_upto_region 8 with fail
  rw [← HX6.out]
  clear HX5 HX6 HO1
  go_wp2_with fail
  refine HSM.out.mono ?_
  rintro e w5 ⟨rfl, b7⟩
  clear HSM c4
  have hBIn := I.keep HBI.out (Kp.below b7 (fun k q => I.lt HBI.out k (.inl q))) (Kp.below b7 (fun k q => I.lt HBI.out k (.inr q))) b7.size
  have hBWn := HBW.out.trans (b7.mono HBW.out.size)
  clear HBI HBW
  have HBI := Lib.hid hBIn
  have HBW := Lib.hid hBWn
  clear hBIn hBWn
  clear b7
  have hdp := I.depth HBI.out (I.tb HTB.out HBW.out)
  rw [opn8] at hdp
  have HDP := Lib.hid hdp
  clear hdp
  go_wp2_with fail
  refine HDP.out.mono ?_
  rintro e w6 ⟨rfl, b8⟩
  clear HDP
  have hBIn := I.keep HBI.out (Kp.below b8 (fun k q => I.lt HBI.out k (.inl q))) (Kp.below b8 (fun k q => I.lt HBI.out k (.inr q))) b8.size
  have hBWn := HBW.out.trans (b8.mono HBW.out.size)
  clear HBI HBW
  have HBI := Lib.hid hBIn
  have HBW := Lib.hid hBWn
  clear hBIn hBWn
  clear b8
  have HDP := Lib.hid (HNI.out _ (I.tb HTB.out HBW.out))
  go_wp2_with fail
  refine HDP.out.mono ?_
  rintro e w7 ⟨rfl, b9⟩
  clear HDP
  have hBIn := I.keep HBI.out (Kp.below b9 (fun k q => I.lt HBI.out k (.inl q))) (Kp.below b9 (fun k q => I.lt HBI.out k (.inr q))) b9.size
  have hBWn := HBW.out.trans (b9.mono HBW.out.size)
  clear HBI HBW
  have HBI := Lib.hid hBIn
  have HBW := Lib.hid hBWn
  clear hBIn hBWn
  clear b9
  go_wp2_with fail
  go_ret
  exact ⟨rfl, HBW.out⟩
end Go.Proofs.YtpccjgoeoeehoaaDoor
namespace Go.Proofs.YtpccjgoeoeehoaaDoor
open Go.RowKit
/-- A document that was told, in its box. -/
def OneD (o a : Nat) (nm : Nm) (s : PV) (A : List Nd) (W : World) : Prop := Blk W o 29 (docL nm (pv s)) ∧ NsS (fun k => a ≤ k ∧ k < o) W (pv s) A
theorem OneD.keep {o a : Nat} {nm : Nm} {s : PV} {A : List Nd} {W W' : World} (h : OneD o a nm s A W) (ha : a ≤ o) (hk : ∀ k, a ≤ k → k ≤ o → W'.heap[k]? = W.heap[k]?) : OneD o a nm s A W' :=
  ⟨(hk o ha (Nat.le_refl _)).trans h.1, h.2.keep (fun k q => hk k q.1 (Nat.le_of_lt q.2))⟩
theorem OneD.lt {o a : Nat} {nm : Nm} {s : PV} {A : List Nd} {W : World} (h : OneD o a nm s A W) : o < W.heap.size := (Array.getElem?_eq_some_iff.1 h.1).1
theorem OneD.exq {o a : Nat} {nm : Nm} {s : PV} {A : List Nd} {W W' : World} {X : Nat → Prop} (h : OneD o a nm s A W) (ha : a ≤ o) (he : Exq X W W') (hX : ∀ k, X k → k < a ∨ o < k) : OneD o a nm s A W' :=
  h.keep ha (fun k h1 h2 => he.block k (by have := h.lt; omega) (fun z => by have := hX k z; omega))
theorem ints9 (W : World) : FsS (fun k => k = W.heap.size) 1 icell (W.alloc (.cells #[.int .i64 0, .int .i64 1, .int .i64 2, .int .i64 3, .int .i64 4, .int .i64 5, .int .i64 6, .int .i64 7, .int .i64 8] 3)) (.slice (some ⟨W.heap.size, 0, none⟩) 9 9) [0, 1, 2, 3, 4, 5, 6, 7, 8] := by
  refine ⟨fs_lit icell_len W 3 [0, 1, 2, 3, 4, 5, 6, 7, 8], fun a k c e _ => ?_⟩
  injection e with e1
  injection e1 with e1
  subst e1
  exact ⟨rfl, fun _ i _ => by
    have h := heap_alloc_new W (.cells #[.int .i64 0, .int .i64 1, .int .i64 2, .int .i64 3, .int .i64 4, .int .i64 5, .int .i64 6, .int .i64 7, .int .i64 8] 3)
    simp only [World.frozen?, h]
    simp⟩
set_option maxRecDepth 100000 in
set_option maxHeartbeats 16000000 in
theorem buildends_walk (BI : BIT) (TB : World → Prop) (I : Impl BI TB) (hK : ∀ W, TB W → Calls Tryd.prog 9 #[] W fun e w' => e = .returned (.bool true) ∧ Below W.heap.size W w') (l : List Dd) (v : Value)  (w : World) (hTB : TB w) (hv : DosS (fun k => k < w.heap.size) w v l) (hb : ddls l ≤ 1000000000) (hsl : ∀ d ∈ l, d.s.length ≤ 2000000) :
    Calls Tryd.prog 5 #[v] w fun e w' => e = .returned (.bool true) ∧ Below w.heap.size w w' := by
  have HLG := Lib.hid (llong_any _ l v w (fun k q => q) hv hb)
  have hlf : longD l = false → ddls l ≤ 800 ∧ l.length ≤ 60 := longD_false
  obtain ⟨xg, hxg⟩ : ∃ x, longD l = x := ⟨_, rfl⟩
  rw [hxg] at HLG hlf
  have HV := Lib.hid hv
  have HTB := Lib.hid hTB
  have HSL := Lib.hid hsl
  have HLF := Lib.hid hlf
  have HK : Hid (∀ W, Below w.heap.size w W → Calls Tryd.prog 9 #[] W fun e w' => e = .returned (.bool true) ∧ Below w.heap.size w w') := Lib.hid (fun W q => (hK W (I.tb hTB q)).mono fun e w' ⟨e1, e2⟩ => ⟨e1, q.trans (e2.mono q.size)⟩)
  obtain ⟨va, vc, rfl⟩ := hv.len
  obtain ⟨ln, hln⟩ : ∃ n, l.length = n := ⟨_, rfl⟩
  have HLN := Lib.hid hln
  rw [hln] at HV HLG ⊢
  clear hv hTB hsl hlf hxg hln
  go_enter Tryd.func5, Tryd.ntmps5
  go_wp2_with fail
  refine HLG.out.mono ?_
  rintro e w1 ⟨rfl, hb1⟩
  have HB1 := Lib.hid hb1
  clear hb1 HLG
  cases xg with
  | true =>
    go_wp2_with fail
    refine (HK.out _ HB1.out).mono ?_
    rintro e w9 ⟨rfl, b9⟩
    have B9 := Lib.hid b9
    clear b9
    go_wp2_with fail
    go_ret
    exact ⟨rfl, B9.out⟩
  | false =>
    obtain ⟨hl1, hl2⟩ := HLF.out rfl
    rw [HLN.out] at hl2
    have HNW := Lib.hid (I.new w1)
    go_wp2_with fail
    refine HNW.out.mono ?_
    rintro e w2 ⟨b, X0, rfl, h1, h2, h3⟩
    have HBI0 := Lib.hid h1
    have HBW0 : Hid (Below w.heap.size w w2) := Lib.hid (HB1.out.trans (h2.mono HB1.out.size))
    have HX0 : Hid (∀ k, X0 k → w.heap.size ≤ k) := Lib.hid (fun k q => Nat.le_trans HB1.out.size (h3 k q))
    clear h1 h2 h3 HNW
    go_wp2_with fail
    go_loopw [4] (fun i wr => ∃ (p : Nat) (t : Bt) (X R : Nat → Prop), p ≤ ln ∧ i = .int .i64 (p : Int) ∧ Hid (BI X R wr b t) ∧ Hid (Below w.heap.size w wr) ∧ Hid (∀ k, X k → w.heap.size ≤ k) ∧ Hid (btl t ≤ ddls (l.take p) + 3 * p)) (fun i _ => ln - (intOf i).toNat)
    case atStart => exact ⟨0, bt0, X0, _, by omega, rfl, HBI0, HBW0, HX0, Lib.hid (by show btl bt0 ≤ _; exact Nat.zero_le _)⟩
    case round =>
      obtain ⟨p, t, X, R, hp, rfl, HBI, HBW, HX, HBT⟩ := hrel
      by_cases hlt : p < ln
      · skip
        obtain ⟨y, hy⟩ : ∃ y, l[p]? = some y := ⟨l[p]'(by rw [HLN.out]; exact hlt), List.getElem?_eq_getElem _⟩
        have hmem := List.mem_of_getElem? hy
        have HNX := Lib.hid (ddls_next hy)
        have hle := ddls_le hy
        have hst := btl_step t y
        have hbt := HBT.out
        obtain ⟨g, off, dv, rfl, -, hC, hD⟩ := (HV.out.keep (Kp.below HBW.out (fun k q => q))).at hy
        have hSX : ∀ k, (fun k => k < w.heap.size) k → k < wr.heap.size ∧ ¬ X k := fun k q => ⟨Nat.lt_of_lt_of_le q HBW.out.size, fun z => by have h1 := HX.out k z; simp only at q; omega⟩
        have HDN := Lib.hid (ldone_any (Aft BI X R (fun k => k < w.heap.size) wr b) (fun k => k < w.heap.size) b t dv y wr (fun k q => (hSX k q).1) hD (HSL.out y hmem) (I.told HBI.out (I.tb HTB.out HBW.out) hD hSX (by omega)))
        obtain ⟨dk, ⟨s1, s2, s3⟩, ⟨xk, xl, xn, ⟨t1, t2, t3⟩, ⟨k1, k2, k3⟩, ⟨r1, r2, r3⟩, xc, ⟨q1, q2, q3⟩, xb, xa⟩, dn, ⟨l1, l2, l3⟩, ⟨g1, g2, g3⟩⟩ := dv
        simp only [dcell, pv] at HDN
        have hlt' : (p : Int) < (ln : Int) := by omega
        have hp0 : (0 : Int) ≤ (p : Int) := by omega
        have c0 : wr.cell? ⟨g, off + p * 15, none⟩ = some (.int .i64 dk) := hC 0 _ rfl
        have c1 : wr.cell? ⟨g, off + p * 15 + 1, none⟩ = some (.slice s1 s2 s3) := hC 1 _ rfl
        have c2 : wr.cell? ⟨g, off + p * 15 + 2, none⟩ = some (.int .i64 xk) := hC 2 _ rfl
        have c3 : wr.cell? ⟨g, off + p * 15 + 3, none⟩ = some (.int .i64 xl) := hC 3 _ rfl
        have c4 : wr.cell? ⟨g, off + p * 15 + 4, none⟩ = some (.int .i64 xn) := hC 4 _ rfl
        have c5 : wr.cell? ⟨g, off + p * 15 + 5, none⟩ = some (.slice t1 t2 t3) := hC 5 _ rfl
        have c6 : wr.cell? ⟨g, off + p * 15 + 6, none⟩ = some (.slice k1 k2 k3) := hC 6 _ rfl
        have c7 : wr.cell? ⟨g, off + p * 15 + 7, none⟩ = some (.slice r1 r2 r3) := hC 7 _ rfl
        have c8 : wr.cell? ⟨g, off + p * 15 + 8, none⟩ = some (.string ⟨xc.toArray⟩) := hC 8 _ rfl
        have c9 : wr.cell? ⟨g, off + p * 15 + 9, none⟩ = some (.slice q1 q2 q3) := hC 9 _ rfl
        have c10 : wr.cell? ⟨g, off + p * 15 + 10, none⟩ = some (.bool xb) := hC 10 _ rfl
        have c11 : wr.cell? ⟨g, off + p * 15 + 11, none⟩ = some (.bool xa) := hC 11 _ rfl
        have c12 : wr.cell? ⟨g, off + p * 15 + 12, none⟩ = some (.int .i64 dn) := hC 12 _ rfl
        have c13 : wr.cell? ⟨g, off + p * 15 + 13, none⟩ = some (.slice l1 l2 l3) := hC 13 _ rfl
        have c14 : wr.cell? ⟨g, off + p * 15 + 14, none⟩ = some (.slice g1 g2 g3) := hC 14 _ rfl
        have HST : Hid (btl (bStep t y).1 ≤ ddls (l.take (p + 1)) + 3 * (p + 1)) := Lib.hid (by rw [HNX.out]; omega)
        clear hy hmem hC hD hSX hst hbt hle
        go_wp2_with fail
        refine HDN.out.mono ?_
        rintro e wq ⟨rfl, X', R', h1, h2, h3, h4⟩
        have HB' := Lib.hid h1
        have HW' : Hid (Below w.heap.size w wq) := Lib.hid (HBW.out.trans (h2.below HBW.out.size HX.out))
        have HX' : Hid (∀ k, X' k → w.heap.size ≤ k) := Lib.hid (fun k q => (h3 k q).elim (HX.out k) (fun z => Nat.le_trans HBW.out.size z))
        clear h1 h2 h3 h4 HDN c0 c1 c2 c3 c4 c5 c6 c7 c8 c9 c10 c11 c12 c13 c14
        go_wp2_with fail
        go_roundw
        case rel => exact ⟨p + 1, _, X', R', by omega, by go_num, HB', HW', HX', HST⟩
        case measure => (simp [intOf]; try omega)
      · have hlt' : ¬ (p : Int) < (ln : Int) := by omega
        have hbt := HBT.out
        have hdt := ddls_take l p
        have hB0 : btl t ≤ 1000 := by omega
        obtain ⟨nm, hnm⟩ : ∃ m, t.nm = m := ⟨_, rfl⟩
        obtain ⟨A, hA⟩ : ∃ A, bDoc t = A := ⟨_, rfl⟩
        have hdc := I.doc HBI.out (I.tb HTB.out HBW.out) (by omega)
        rw [hnm, hA] at hdc
        unfold docV docL at hdc
        have HDC := Lib.hid hdc
        have HNM := Lib.hid hnm
        have HAA := Lib.hid hA
        have HB0 := Lib.hid hB0
        clear hbt hdt hB0 hdc hnm hA
        go_wp2_with fail
        refine HDC.out.mono ?_
        rintro e wd ⟨⟨s1, s2, s3⟩, rfl, hn1, hbd⟩
        simp only [pv] at hn1 ⊢
        obtain ⟨X5, hX5⟩ : ∃ Y, Y = wd.alloc (.cells #[.string ⟨nm.a.toArray⟩, .string ⟨nm.b.toArray⟩, .string ⟨nm.c.toArray⟩, .string ⟨nm.d.toArray⟩, .slice s1 s2 s3] 29) := ⟨_, rfl⟩
        have b5 : Below wd.heap.size wd X5 := by rw [hX5]; exact below_lit _ _
        have br5 : Below wr.heap.size wr X5 := hbd.trans (b5.mono hbd.size)
        obtain ⟨a1, ha1⟩ : ∃ q, wr.heap.size = q := ⟨_, rfl⟩
        obtain ⟨o1, ho1⟩ : ∃ q, wd.heap.size = q := ⟨_, rfl⟩
        have hao1 : a1 ≤ o1 := by rw [← ha1, ← ho1]; exact hbd.size
        have hz5 : X5.heap.size = o1 + 1 := by rw [hX5, World.size_alloc, ho1]
        have D5 : OneD o1 a1 nm (s1, s2, s3) A X5 := ⟨by rw [← ho1, hX5]; exact heap_alloc_new wd _, (hn1.keep (Kp.below b5 (fun k q => q.2))).mono (fun k q => ⟨by rw [← ha1]; exact q.1, by rw [← ho1]; exact q.2⟩)⟩
        have hBI5 := I.keep HBI.out (Kp.below br5 (fun k q => I.lt HBI.out k (.inl q))) (Kp.below br5 (fun k q => I.lt HBI.out k (.inr q))) br5.size
        have hBW5 := HBW.out.trans (br5.mono HBW.out.size)
        have hX1 : ∀ k, X k → k < a1 := fun k q => by rw [← ha1]; exact I.lt HBI.out k (.inl q)
        have HND := Lib.hid (I.nd hBI5 (I.tb HTB.out hBW5) (by have := HB0.out; omega))
        have HX5 := Lib.hid hX5
        have HBW5 := Lib.hid hBW5
        have HD5 := Lib.hid D5
        have HX1 := Lib.hid hX1
        have HZ5 := Lib.hid hz5
        have HO1 := Lib.hid ho1
        clear hn1 hbd hX5 b5 br5 ha1 ho1 hz5 D5 hBI5 hBW5 hX1 HDC HBI
        go_upto_region 9 with fail
        rw [← HX5.out]
        try rw [HO1.out]
        clear HX5
        go_wp2_with fail
        refine HND.out.mono ?_
        rintro e we ⟨rfl, X2, R2, g1, g2, g3, g4⟩
        have hBW6 : Below w.heap.size w we := HBW5.out.trans (g2.below HBW5.out.size HX.out)
        have hX2w : ∀ k, X2 k → w.heap.size ≤ k := fun k q => (g3 k q).elim (HX.out k) (fun z => Nat.le_trans HBW5.out.size z)
        have hX2a : ∀ k, X2 k → k < a1 ∨ o1 < k := fun k q => (g3 k q).elim (fun z => .inl (HX1.out k z)) (fun z => .inr (by rw [HZ5.out] at z; omega))
        have D6 := HD5.out.exq hao1 g2 (fun k q => .inl (HX1.out k q))
        have hdc := I.doc g1 (I.tb HTB.out hBW6) (by have h1 := btl_end t; have h2 := HB0.out; omega)
        have hnm2 : (bEnd t).nm = nm := by rw [← HNM.out]; unfold bEnd; split; rfl; exact (lay_sameP t _).1
        rw [hnm2, doc_end, HAA.out] at hdc
        unfold docV docL at hdc
        have HDC := Lib.hid hdc
        have HG1 := Lib.hid g1
        have HBW6 := Lib.hid hBW6
        have HX2w := Lib.hid hX2w
        have HX2a := Lib.hid hX2a
        have HD6 := Lib.hid D6
        clear g1 g2 g3 g4 hBW6 hX2w hX2a D6 hdc hnm2 HND HX HX1 HBW HBT HBW5 HD5 HZ5
        go_wp2_with fail
        refine HDC.out.mono ?_
        rintro e wf ⟨⟨u1, u2, u3⟩, rfl, hn1, hbd⟩
        simp only [pv] at hn1 ⊢
        obtain ⟨X6, hX6⟩ : ∃ Y, Y = wf.alloc (.cells #[.string ⟨nm.a.toArray⟩, .string ⟨nm.b.toArray⟩, .string ⟨nm.c.toArray⟩, .string ⟨nm.d.toArray⟩, .slice u1 u2 u3] 29) := ⟨_, rfl⟩
        have b6 : Below wf.heap.size wf X6 := by rw [hX6]; exact below_lit _ _
        have br6 : Below we.heap.size we X6 := hbd.trans (b6.mono hbd.size)
        obtain ⟨a2, ha2⟩ : ∃ q, we.heap.size = q := ⟨_, rfl⟩
        obtain ⟨o2, ho2⟩ : ∃ q, wf.heap.size = q := ⟨_, rfl⟩
        have hao2 : a2 ≤ o2 := by rw [← ha2, ← ho2]; exact hbd.size
        have hz6 : X6.heap.size = o2 + 1 := by rw [hX6, World.size_alloc, ho2]
        have ho12 : o1 < a2 := by rw [← ha2]; exact HD6.out.lt
        have E6 : OneD o2 a2 nm (u1, u2, u3) A X6 := ⟨by rw [← ho2, hX6]; exact heap_alloc_new wf _, (hn1.keep (Kp.below b6 (fun k q => q.2))).mono (fun k q => ⟨by rw [← ha2]; exact q.1, by rw [← ho2]; exact q.2⟩)⟩
        have D7 := HD6.out.exq hao1 (Exq.of (X := fun _ => False) br6) (fun k q => q.elim)
        have hBI6 := I.keep HG1.out (Kp.below br6 (fun k q => I.lt HG1.out k (.inl q))) (Kp.below br6 (fun k q => I.lt HG1.out k (.inr q))) br6.size
        have hBW7 := HBW6.out.trans (br6.mono HBW6.out.size)
        have hX2b : ∀ k, X2 k → k < a2 := fun k q => by rw [← ha2]; exact I.lt HG1.out k (.inl q)
        have HND := Lib.hid (I.nd hBI6 (I.tb HTB.out hBW7) (by have h1 := btl_end t; have h2 := HB0.out; omega))
        have HX6 := Lib.hid hX6
        have HBW7 := Lib.hid hBW7
        have HD7 := Lib.hid D7
        have HE6 := Lib.hid E6
        have HX2b := Lib.hid hX2b
        have HZ6 := Lib.hid hz6
        have HO2 := Lib.hid ho2
        clear hn1 hbd hX6 b6 br6 ha2 ho2 hz6 D7 E6 hBI6 hBW7 hX2b HDC HG1 HD6 HBW6
        go_upto_region 11 with fail
        rw [← HX6.out]
        try rw [HO2.out]
        clear HX6
        go_wp2_with fail
        refine HND.out.mono ?_
        rintro e wg ⟨rfl, X3, R3, g1, g2, g3, g4⟩
        have hBW8 : Below w.heap.size w wg := HBW7.out.trans (g2.below HBW7.out.size HX2w.out)
        have hX3w : ∀ k, X3 k → w.heap.size ≤ k := fun k q => (g3 k q).elim (HX2w.out k) (fun z => Nat.le_trans HBW7.out.size z)
        have hX3a : ∀ k, X3 k → k < a1 ∨ o1 < k := fun k q => (g3 k q).elim (HX2a.out k) (fun z => .inr (by rw [HZ6.out] at z; omega))
        have hX3b : ∀ k, X3 k → k < a2 ∨ o2 < k := fun k q => (g3 k q).elim (fun z => .inl (HX2b.out k z)) (fun z => .inr (by rw [HZ6.out] at z; omega))
        have D8 := HD7.out.exq hao1 g2 HX2a.out
        have E8 := HE6.out.exq hao2 g2 (fun k q => .inl (HX2b.out k q))
        obtain ⟨t3, ht3⟩ : ∃ q, bEnd (bEnd t) = q := ⟨_, rfl⟩
        rw [ht3] at g1
        have hB3 : btl t3 ≤ 1010 := by rw [← ht3]; have h1 := btl_end t; have h2 := btl_end (bEnd t); have h3 := HB0.out; omega
        have hA3 : bDoc t3 = A := by rw [← ht3, doc_end, doc_end]; exact HAA.out
        have hN3 : t3.nm = nm := by
          rw [← ht3, end_end, ← HNM.out]
          unfold bEnd
          split
          · rfl
          · exact (lay_sameP t _).1
        have l2 := cnt_nlL t3.opn
        have l4 := cnt_len t3.opn
        have hbt3 : btl t3 = nlL t3.kids + nlL t3.opn + t3.text.length := rfl
        have hn3 : t3.opn.length ≤ 1010 := by omega
        have HDP := Lib.hid (I.depth g1 (I.tb HTB.out hBW8))
        obtain ⟨n3, hn3e⟩ : ∃ q, t3.opn.length = q := ⟨_, rfl⟩
        rw [hn3e] at hn3 HDP
        have HG1 := Lib.hid g1
        have HBW8 := Lib.hid hBW8
        have HX3w := Lib.hid hX3w
        have HX3a := Lib.hid hX3a
        have HX3b := Lib.hid hX3b
        have HD8 := Lib.hid D8
        have HE8 := Lib.hid E8
        have HB3 := Lib.hid hB3
        have HA3 := Lib.hid hA3
        have HN3 := Lib.hid hN3
        clear g1 g2 g3 g4 hBW8 hX3w hX3a hX3b D8 E8 ht3 hB3 hA3 hN3 l2 l4 hbt3 hn3e HND HX2w HX2a HX2b HD7 HE6 HBW7 HZ6
        go_wp2_with fail
        refine HDP.out.mono ?_
        rintro e wh ⟨rfl, bh⟩
        have HG2 := Lib.hid (I.keep HG1.out (Kp.below bh (fun k q => I.lt HG1.out k (.inl q))) (Kp.below bh (fun k q => I.lt HG1.out k (.inr q))) bh.size)
        have HBW9 := Lib.hid (HBW8.out.trans (bh.mono HBW8.out.size))
        have HD9 := Lib.hid (HD8.out.exq hao1 (Exq.of (X := fun _ => False) bh) (fun k q => q.elim))
        have HE9 := Lib.hid (HE8.out.exq hao2 (Exq.of (X := fun _ => False) bh) (fun k q => q.elim))
        clear bh HDP HG1 HBW8 HD8 HE8
        go_wp2_with fail
        go_loopw [8] (fun i wr => ∃ (p : Nat) (tt : Bt) (X R : Nat → Prop), p ≤ n3 ∧ i = .int .i64 (p : Int) ∧ Hid (BI X R wr b tt) ∧ Hid (Below w.heap.size w wr) ∧ Hid (∀ k, X k → w.heap.size ≤ k) ∧ Hid (∀ k, X k → k < a1 ∨ o1 < k) ∧ Hid (∀ k, X k → k < a2 ∨ o2 < k) ∧ Hid (btl tt ≤ 1010 + 3 * p) ∧ Hid (bDoc tt = A) ∧ Hid (tt.nm = nm) ∧ Hid (OneD o1 a1 nm (s1, s2, s3) A wr) ∧ Hid (OneD o2 a2 nm (u1, u2, u3) A wr)) (fun i _ => n3 - (intOf i).toNat)
        case atStart => exact ⟨0, t3, X3, R3, by omega, rfl, HG2, HBW9, HX3w, HX3a, HX3b, HB3, HA3, HN3, HD9, HE9⟩
        case round =>
          obtain ⟨q, tt, X, R, hq, rfl, GB, GW, GX, GXa, GXb, GT, GA, GN, GD, GE⟩ := hrel
          by_cases hlq : q < n3
          · skip
            have hlq' : (q : Int) < (n3 : Int) := by omega
            obtain ⟨X7, hX7⟩ : ∃ Y, Y = wr.alloc (.cells #[.int .i64 0, .int .i64 1, .int .i64 2, .int .i64 3, .int .i64 4, .int .i64 5, .int .i64 6, .int .i64 7, .int .i64 8] 3) := ⟨_, rfl⟩
            have b7 : Below wr.heap.size wr X7 := by rw [hX7]; exact below_lit _ _
            have hz7 : X7.heap.size = wr.heap.size + 1 := by rw [hX7, World.size_alloc]
            have hI9 := ints9 wr
            rw [← hX7] at hI9
            have hB7 := I.keep GB.out (Kp.below b7 (fun k z => I.lt GB.out k (.inl z))) (Kp.below b7 (fun k z => I.lt GB.out k (.inr z))) b7.size
            have hW7 := GW.out.trans (b7.mono GW.out.size)
            have hlt7 : ∀ k, X k → k < wr.heap.size := fun k z => I.lt GB.out k (.inl z)
            have HSH := Lib.hid (I.shut [0, 1, 2, 3, 4, 5, 6, 7, 8] hB7 (I.tb HTB.out hW7) hI9 (fun k z => ⟨by omega, fun z2 => by have := hlt7 k z2; omega⟩) (by simp) (by have := GT.out; omega))
            have HD7 := Lib.hid (GD.out.exq hao1 (Exq.of (X := fun _ => False) b7) (fun k z => z.elim))
            have HE7 := Lib.hid (GE.out.exq hao2 (Exq.of (X := fun _ => False) b7) (fun k z => z.elim))
            have HX7 := Lib.hid hX7
            have HW7 := Lib.hid hW7
            clear hX7 b7 hz7 hI9 hB7 hW7 hlt7
            go_wp2_with fail
            rw [← HX7.out]
            refine HSH.out.mono ?_
            rintro e wq ⟨rfl, X', R', g1, g2, g3, g4⟩
            have HG := Lib.hid g1
            have HWq := Lib.hid (HW7.out.trans (g2.below HW7.out.size GX.out))
            have HXq : Hid (∀ k, X' k → w.heap.size ≤ k) := Lib.hid (fun k z => (g3 k z).elim (GX.out k) (fun z => Nat.le_trans HW7.out.size z))
            have HXqa : Hid (∀ k, X' k → k < a1 ∨ o1 < k) := Lib.hid (fun k z => (g3 k z).elim (GXa.out k) (fun z => .inr (by have := HD7.out.lt; omega)))
            have HXqb : Hid (∀ k, X' k → k < a2 ∨ o2 < k) := Lib.hid (fun k z => (g3 k z).elim (GXb.out k) (fun z => .inr (by have := HE7.out.lt; omega)))
            have HDq := Lib.hid (HD7.out.exq hao1 g2 GXa.out)
            have HEq := Lib.hid (HE7.out.exq hao2 g2 GXb.out)
            have HTq : Hid (btl (bShut tt [0, 1, 2, 3, 4, 5, 6, 7, 8]) ≤ 1010 + 3 * (q + 1)) := Lib.hid (by have h1 := btl_shut tt [0, 1, 2, 3, 4, 5, 6, 7, 8]; have h2 := GT.out; omega)
            have HAq : Hid (bDoc (bShut tt [0, 1, 2, 3, 4, 5, 6, 7, 8]) = A) := Lib.hid (by rw [doc_shut]; exact GA.out)
            have HNq : Hid ((bShut tt [0, 1, 2, 3, 4, 5, 6, 7, 8]).nm = nm) := Lib.hid (by
              rw [← GN.out]
              unfold bShut
              rw [(popAll_sameP _ _ _).1]
              unfold bEnd
              split
              · rfl
              · exact (lay_sameP tt _).1)
            clear g1 g2 g3 g4 HSH HX7
            go_wp2_with fail
            go_roundw
            case rel => exact ⟨q + 1, _, X', R', by omega, by go_num, HG, HWq, HXq, HXqa, HXqb, HTq, HAq, HNq, HDq, HEq⟩
            case measure => (simp [intOf]; try omega)
          · skip
            have hlq' : ¬ (q : Int) < (n3 : Int) := by omega
            have HSC : Hid (∀ W, Below wr.heap.size wr W → W.cell? ⟨o1, 0, none⟩ = some (.string ⟨nm.a.toArray⟩) ∧ W.cell? ⟨o1, 1, none⟩ = some (.string ⟨nm.b.toArray⟩) ∧ W.cell? ⟨o1, 2, none⟩ = some (.string ⟨nm.c.toArray⟩) ∧ W.cell? ⟨o1, 3, none⟩ = some (.string ⟨nm.d.toArray⟩) ∧ W.cell? ⟨o1, 4, none⟩ = some (.slice s1 s2 s3) ∧ W.cell? ⟨o2, 0, none⟩ = some (.string ⟨nm.a.toArray⟩) ∧ W.cell? ⟨o2, 1, none⟩ = some (.string ⟨nm.b.toArray⟩) ∧ W.cell? ⟨o2, 2, none⟩ = some (.string ⟨nm.c.toArray⟩) ∧ W.cell? ⟨o2, 3, none⟩ = some (.string ⟨nm.d.toArray⟩) ∧ W.cell? ⟨o2, 4, none⟩ = some (.slice u1 u2 u3)) := Lib.hid (fun W hb => ⟨(GD.out.1.below hb).cell 0, (GD.out.1.below hb).cell 1, (GD.out.1.below hb).cell 2, (GD.out.1.below hb).cell 3, (GD.out.1.below hb).cell 4, (GE.out.1.below hb).cell 0, (GE.out.1.below hb).cell 1, (GE.out.1.below hb).cell 2, (GE.out.1.below hb).cell 3, (GE.out.1.below hb).cell 4⟩)
            have hsz : nlL A ≤ 100000000 := by
              have h1 := tidy_size (bAll (bEnd tt))
              have h2 := btl_all (bEnd tt)
              have h3 := btl_end tt
              have h4 := GT.out
              have h5 : bDoc tt = tidyL (bAll (bEnd tt)) := rfl
              rw [← h5, GA.out] at h1
              omega
            have GDn : NsS (fun k => k < wr.heap.size) wr (.slice s1 s2 s3) A := GD.out.2.mono (fun k z => by have := GD.out.lt; omega)
            have GEn : NsS (fun k => k < wr.heap.size) wr (.slice u1 u2 u3) A := GE.out.2.mono (fun k z => by have := GE.out.lt; omega)
            have TK : ∀ {W : World} {v : Value} {l : List Nd}, NsS (fun k => k < wr.heap.size) wr v l → Below wr.heap.size wr W → NsS (fun k => k < W.heap.size) W v l := fun h hb => (h.keep (Kp.below hb (fun b q => q))).mono (fun b q => Nat.lt_of_lt_of_le q hb.size)
            have BT : ∀ {W W' : World}, Below wr.heap.size wr W → Below W.heap.size W W' → Below wr.heap.size wr W' := fun h k => h.trans (k.mono h.size)
            have HP1 : Hid (∀ W, Below wr.heap.size wr W → Calls Tryd.prog 16 #[.agg #[.string ⟨nm.a.toArray⟩, .string ⟨nm.b.toArray⟩, .string ⟨nm.c.toArray⟩, .string ⟨nm.d.toArray⟩, .slice s1 s2 s3], .agg #[.string ⟨nm.a.toArray⟩, .string ⟨nm.b.toArray⟩, .string ⟨nm.c.toArray⟩, .string ⟨nm.d.toArray⟩, .slice u1 u2 u3]] W fun e w' => e = .returned (.bool true) ∧ Below wr.heap.size wr w') := Lib.hid (fun W hb => (rsamedoc_any _ _ nm A A (.slice s1 s2 s3) (.slice u1 u2 u3) W (by omega) (by omega) (TK GDn hb) (TK GEn hb) (fun b q => q) (fun b q => q)).mono (fun e w' ⟨e1, e2⟩ => ⟨by rw [e1, eqNs_true rfl], BT hb e2⟩))
            have HP2 : Hid (∀ W, Below wr.heap.size wr W → Calls Tryd.prog 17 #[.pointer (some ⟨b, 0, none⟩)] W fun e w' => ∃ v1 v2 v3, e = .returned (.agg #[.string ⟨nm.a.toArray⟩, .string ⟨nm.b.toArray⟩, .string ⟨nm.c.toArray⟩, .string ⟨nm.d.toArray⟩, .slice v1 v2 v3]) ∧ Below wr.heap.size wr w' ∧ NsS (fun k => k < w'.heap.size) w' (.slice v1 v2 v3) A) := Lib.hid (fun W hb => by
              have h1 := I.doc (I.keep GB.out (Kp.below hb (fun k z => I.lt GB.out k (.inl z))) (Kp.below hb (fun k z => I.lt GB.out k (.inr z))) hb.size) (I.tb HTB.out (GW.out.trans (hb.mono GW.out.size))) (by have := GT.out; omega)
              rw [GN.out, GA.out] at h1
              exact h1.mono (fun e w' ⟨⟨v1, v2, v3⟩, e1, e2, e3⟩ => ⟨v1, v2, v3, e1, BT hb e3, e2.mono (fun k z => z.2)⟩))
            have HP3 : Hid (∀ W v1 v2 v3, Below wr.heap.size wr W → NsS (fun k => k < W.heap.size) W (.slice v1 v2 v3) A → Calls Tryd.prog 16 #[.agg #[.string ⟨nm.a.toArray⟩, .string ⟨nm.b.toArray⟩, .string ⟨nm.c.toArray⟩, .string ⟨nm.d.toArray⟩, .slice v1 v2 v3], .agg #[.string ⟨nm.a.toArray⟩, .string ⟨nm.b.toArray⟩, .string ⟨nm.c.toArray⟩, .string ⟨nm.d.toArray⟩, .slice s1 s2 s3]] W fun e w' => e = .returned (.bool true) ∧ Below wr.heap.size wr w') := Lib.hid (fun W v1 v2 v3 hb hq => (rsamedoc_any _ _ nm A A (.slice v1 v2 v3) (.slice s1 s2 s3) W (by omega) (by omega) hq (TK GDn hb) (fun b q => q) (fun b q => q)).mono (fun e w' ⟨e1, e2⟩ => ⟨by rw [e1, eqNs_true rfl], BT hb e2⟩))
            have HP4 : Hid (∀ W, Below wr.heap.size wr W → Calls Tryd.prog 9 #[] W fun e w' => e = .returned (.bool true) ∧ Below wr.heap.size wr w') := Lib.hid (fun W hb => (hK W (I.tb HTB.out (GW.out.trans (hb.mono GW.out.size)))).mono fun e w' ⟨e1, e2⟩ => ⟨e1, BT hb e2⟩)
            have HX : Hid (Below wr.heap.size wr wr.drew) := Lib.hid (Below.refl _ wr).drew
            have HWW : Hid (∀ W, Below wr.heap.size wr W → Below w.heap.size w W) := Lib.hid (fun W hb => GW.out.trans (hb.mono GW.out.size))
            clear hsz GDn GEn TK BT GX GXa GXb
            go_upto_region 17 with fail
            refine wp_region_held_drew (S := (fun W' => W'.cell? ⟨o1, 0, none⟩ = some (.string ⟨nm.a.toArray⟩) ∧ W'.cell? ⟨o1, 1, none⟩ = some (.string ⟨nm.b.toArray⟩) ∧ W'.cell? ⟨o1, 2, none⟩ = some (.string ⟨nm.c.toArray⟩) ∧ W'.cell? ⟨o1, 3, none⟩ = some (.string ⟨nm.d.toArray⟩) ∧ W'.cell? ⟨o1, 4, none⟩ = some (.slice s1 s2 s3) ∧ W'.cell? ⟨o2, 0, none⟩ = some (.string ⟨nm.a.toArray⟩) ∧ W'.cell? ⟨o2, 1, none⟩ = some (.string ⟨nm.b.toArray⟩) ∧ W'.cell? ⟨o2, 2, none⟩ = some (.string ⟨nm.c.toArray⟩) ∧ W'.cell? ⟨o2, 3, none⟩ = some (.string ⟨nm.d.toArray⟩) ∧ W'.cell? ⟨o2, 4, none⟩ = some (.slice u1 u2 u3))) (by kernel_rfl) ?_ (fun hHeld => ?_)
            · exact HSC.out _ HX.out
            refine wpAnyH_take (i := 0) (v := .agg #[.string ⟨nm.a.toArray⟩, .string ⟨nm.b.toArray⟩, .string ⟨nm.c.toArray⟩, .string ⟨nm.d.toArray⟩, .slice s1 s2 s3]) rfl (by kernel_rfl) (by kernel_rfl) (by kernel_rfl) (fun _ _ _ h => h) (Or.inl ⟨by rfl, fun w' hSw => by (try dsimp only at hSw); go_simp⟩) (by assumption) ?_
            simp only [List.getElem_toArray, List.getElem_cons_succ, List.getElem_cons_zero, Act.put, List.setIfInBounds_toArray, List.set_cons_zero, List.set_cons_succ]
            refine wpAnyH_take (i := 1) (v := .agg #[.string ⟨nm.a.toArray⟩, .string ⟨nm.b.toArray⟩, .string ⟨nm.c.toArray⟩, .string ⟨nm.d.toArray⟩, .slice u1 u2 u3]) rfl (by kernel_rfl) (by kernel_rfl) (by kernel_rfl) (fun _ _ _ h => h) (Or.inl ⟨by rfl, fun w' hSw => by (try dsimp only at hSw); go_simp⟩) (by assumption) ?_
            simp only [List.getElem_toArray, List.getElem_cons_succ, List.getElem_cons_zero, Act.put, List.setIfInBounds_toArray, List.set_cons_zero, List.set_cons_succ]
            refine wpAnyH_ready (rs := [2]) (by kernel_rfl) (by simp) ?_
            refine AllReadyH.cons rfl (fun K hK => ?_) AllReadyH.nil
            try simp only [List.getElem_toArray, List.getElem_cons_succ, List.getElem_cons_zero]
            go_simp
            go_at_call 16
            refine (HP1.out _ HX.out).mono ?_
            rintro e w7 ⟨rfl, b7⟩
            clear HX
            have HX := Lib.hid b7
            clear b7
            go_wp2_with fail
            refine hK.out _ _ ?_ (fun hHeld => ?_)
            · exact HSC.out _ HX.out
            clear hK K
            try simp only [List.getElem_toArray, List.getElem_cons_succ, List.getElem_cons_zero, Act.put, List.setIfInBounds_toArray, List.set_cons_zero, List.set_cons_succ]
            refine wpAnyH_take (i := 3) (v := .bool true) rfl (by kernel_rfl) (by kernel_rfl) (by kernel_rfl) (fun _ _ _ h => h) (Or.inl ⟨by rfl, fun w' hSw => by (try dsimp only at hSw); go_simp⟩) (by assumption) ?_
            simp only [List.getElem_toArray, List.getElem_cons_succ, List.getElem_cons_zero, Act.put, List.setIfInBounds_toArray, List.set_cons_zero, List.set_cons_succ]
            refine wpAnyH_take (i := 4) (v := .pointer (some ⟨b, 0, none⟩)) rfl (by kernel_rfl) (by kernel_rfl) (by kernel_rfl) (fun _ _ _ h => h) (Or.inl ⟨by rfl, fun w' hSw => by (try dsimp only at hSw); go_simp⟩) (by assumption) ?_
            simp only [List.getElem_toArray, List.getElem_cons_succ, List.getElem_cons_zero, Act.put, List.setIfInBounds_toArray, List.set_cons_zero, List.set_cons_succ]
            refine wpAnyH_take (i := 6) (v := .agg #[.string ⟨nm.a.toArray⟩, .string ⟨nm.b.toArray⟩, .string ⟨nm.c.toArray⟩, .string ⟨nm.d.toArray⟩, .slice s1 s2 s3]) rfl (by kernel_rfl) (by kernel_rfl) (by kernel_rfl) (fun _ _ _ h => h) (Or.inl ⟨by rfl, fun w' hSw => by (try dsimp only at hSw); go_simp⟩) (by assumption) ?_
            simp only [List.getElem_toArray, List.getElem_cons_succ, List.getElem_cons_zero, Act.put, List.setIfInBounds_toArray, List.set_cons_zero, List.set_cons_succ]
            refine wpAnyH_ready (rs := [5]) (by kernel_rfl) (by simp) ?_
            refine AllReadyH.cons rfl (fun K hK => ?_) AllReadyH.nil
            try simp only [List.getElem_toArray, List.getElem_cons_succ, List.getElem_cons_zero]
            go_simp
            go_at_call 17
            refine (HP2.out _ HX.out).mono ?_
            rintro e w7 ⟨v1, v2, v3, rfl, b7, hq⟩
            clear HX
            have HX := Lib.hid b7
            have HQ := Lib.hid hq
            clear b7 hq
            go_wp2_with fail
            refine hK.out _ _ ?_ (fun hHeld => ?_)
            · exact HSC.out _ HX.out
            clear hK K
            try simp only [List.getElem_toArray, List.getElem_cons_succ, List.getElem_cons_zero, Act.put, List.setIfInBounds_toArray, List.set_cons_zero, List.set_cons_succ]
            refine wpAnyH_ready (rs := [7]) (by kernel_rfl) (by simp) ?_
            refine AllReadyH.cons rfl (fun K hK => ?_) AllReadyH.nil
            try simp only [List.getElem_toArray, List.getElem_cons_succ, List.getElem_cons_zero]
            go_simp
            go_at_call 16
            refine (HP3.out _ _ _ _ HX.out HQ.out).mono ?_
            rintro e w7 ⟨rfl, b7⟩
            clear HX HQ
            have HX := Lib.hid b7
            clear b7
            go_wp2_with fail
            refine hK.out _ _ ?_ (fun hHeld => ?_)
            · exact HSC.out _ HX.out
            clear hK K
            try simp only [List.getElem_toArray, List.getElem_cons_succ, List.getElem_cons_zero, Act.put, List.setIfInBounds_toArray, List.set_cons_zero, List.set_cons_succ]
            refine wpAnyH_take (i := 8) (v := .bool true) rfl (by kernel_rfl) (by kernel_rfl) (by kernel_rfl) (fun _ _ _ h => h) (Or.inl ⟨by rfl, fun w' hSw => by (try dsimp only at hSw); go_simp⟩) (by assumption) ?_
            simp only [List.getElem_toArray, List.getElem_cons_succ, List.getElem_cons_zero, Act.put, List.setIfInBounds_toArray, List.set_cons_zero, List.set_cons_succ]
            refine wpAnyH_take (i := 9) (v := .bool true) rfl (by kernel_rfl) (by kernel_rfl) (by kernel_rfl) (fun _ _ _ h => h) (Or.inl ⟨by rfl, fun w' hSw => by (try dsimp only at hSw); go_simp⟩) (by assumption) ?_
            simp only [List.getElem_toArray, List.getElem_cons_succ, List.getElem_cons_zero, Act.put, List.setIfInBounds_toArray, List.set_cons_zero, List.set_cons_succ]
            refine wpAnyH_ready (rs := [10]) (by kernel_rfl) (by simp) ?_
            refine AllReadyH.cons rfl (fun K hK => ?_) AllReadyH.nil
            try simp only [List.getElem_toArray, List.getElem_cons_succ, List.getElem_cons_zero]
            go_simp
            go_at_call 9
            refine (HP4.out _ HX.out).mono ?_
            rintro e w7 ⟨rfl, b7⟩
            clear HX
            have HX := Lib.hid b7
            clear b7
            go_wp2_with fail
            refine hK.out _ _ ?_ (fun hHeld => ?_)
            · exact HSC.out _ HX.out
            clear hK K
            try simp only [List.getElem_toArray, List.getElem_cons_succ, List.getElem_cons_zero, Act.put, List.setIfInBounds_toArray, List.set_cons_zero, List.set_cons_succ]
            refine wpAnyH_take (i := 11) (v := .bool true) rfl (by kernel_rfl) (by kernel_rfl) (by kernel_rfl) (fun _ _ _ h => h) (Or.inl ⟨by rfl, fun w' hSw => by (try dsimp only at hSw); go_simp⟩) (by assumption) ?_
            simp only [List.getElem_toArray, List.getElem_cons_succ, List.getElem_cons_zero, Act.put, List.setIfInBounds_toArray, List.set_cons_zero, List.set_cons_succ]
            refine wpAnyH_take (i := 12) (v := .bool true) rfl (by kernel_rfl) (by kernel_rfl) (by kernel_rfl) (fun _ _ _ h => h) (Or.inl ⟨by rfl, fun w' hSw => by (try dsimp only at hSw); go_simp⟩) (by assumption) ?_
            simp only [List.getElem_toArray, List.getElem_cons_succ, List.getElem_cons_zero, Act.put, List.setIfInBounds_toArray, List.set_cons_zero, List.set_cons_succ]
            refine wpAnyH_done (by kernel_rfl) ?_ _
            go_wp2_with fail
            go_ret
            exact ⟨rfl, HWW.out _ HX.out⟩
end Go.Proofs.YtpccjgoeoeehoaaDoor
