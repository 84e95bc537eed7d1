/- The document's answer for layer 8: has, add, Inside. The document's answer for layer 8: name, Step. The document's answer for layer 8: rows of what is told; Long. The laws' own small functions of layer 8: long, name. The laws' done: what is told goes to the builder's own functions, whatever these keep (P). What the laws of layer 8 ask of a builder, whatever it keeps (BI); TB: what the tables say. Rows as a builder keeps them: one's own, or to be read alone; a node stored in one; a node behind one. The program's builder, as it lies: what is its own (each block has a number that says what it is for), and what it reads. The program's builder: a node is laid where the document goes on. The program's builder: a node is laid into the innermost that is open. The walk of BuildEnds, over whatever a builder keeps. -/
import Derived.Test.YtpccjgoeoeehoaaDoorBs
import Derived.Deep.RegionHeld3
import Derived.Deep.DeepCutAuto
import Derived.StillTailTactics
import Derived.Test.YtpccjgoeoeehoaaDoorQ9
import Derived.ArgAppend
set_option linter.unusedVariables false
set_option linter.unusedSimpArgs false
namespace Go.Proofs.YtpccjgoeoeehoaaDoor
open Go.RowKit
/-- Nodes in S. -/
def NdIs (S : Nat → Prop) (w : World) (x : NV) (y : Nd) : Prop := HdIs S w x y.hd ∧ NsS S w (pv x.kids) y.kids
theorem NdIs.keep {S : Nat → Prop} {w w' : World} {x : NV} {y : Nd} (h : NdIs S w x y) (k : Kp S w w') : NdIs S w' x y := ⟨h.1.keep k, h.2.keep k⟩
theorem NdIs.mono {S T : Nat → Prop} {w : World} {x : NV} {y : Nd} (h : NdIs S w x y) (k : ∀ b, S b → T b) : NdIs T w x y := ⟨h.1.mono k, h.2.mono k⟩
attribute [local go_sem ↓ high] builtin_appN
end Go.Proofs.YtpccjgoeoeehoaaDoor
namespace Go.Proofs.YtpccjgoeoeehoaaDoor
open Go.RowKit
def scell (b : List UInt8) : List Value := [.string ⟨b.toArray⟩]
theorem scell_len (b : List UInt8) : (scell b).length = 1 := rfl
def nameAt (l : List (List UInt8)) (k : Nat) : List UInt8 := l.getD k []
/-- Something that is told. -/
structure Dd where
  kind : Int
  s : List (List UInt8)
  x : Nd
  n : Int
  l : List Int
  g : List Gly
structure DV where
  kind : Int
  s : PV
  x : NV
  n : Int
  l : PV
  g : PV
def dcell (v : DV) : List Value := [.int .i64 v.kind, pv v.s, .int .i64 v.x.kind, .int .i64 v.x.line, .int .i64 v.x.n, pv v.x.text, pv v.x.kids, pv v.x.rows, .string ⟨v.x.cols.toArray⟩, pv v.x.trows, .bool v.x.box, .bool v.x.all, .int .i64 v.n, pv v.l, pv v.g]
structure DdIs (S : Nat → Prop) (w : World) (v : DV) (d : Dd) : Prop where
  kind : v.kind = d.kind
  s : FsS S 1 scell w (pv v.s) d.s
  x : NdIs S w v.x d.x
  n : v.n = d.n
  l : FsS S 1 icell w (pv v.l) d.l
  g : FsS S 2 gcell w (pv v.g) d.g
theorem DdIs.keep {S : Nat → Prop} {w w' : World} {v : DV} {d : Dd} (h : DdIs S w v d) (k : Kp S w w') : DdIs S w' v d := ⟨h.kind, h.s.keep k, h.x.keep k, h.n, h.l.keep k, h.g.keep k⟩
theorem DdIs.mono {S T : Nat → Prop} {w : World} {v : DV} {d : Dd} (h : DdIs S w v d) (k : ∀ b, S b → T b) : DdIs T w v d := ⟨h.kind, h.s.mono k, h.x.mono k, h.n, h.l.mono k, h.g.mono k⟩
def ddl (d : Dd) : Nat := 2 + d.g.length + d.l.length + nlN d.x
def bStep (t : Bt) (d : Dd) : Bt × Bool :=
  if d.kind = 1 then ({ t with nm := ⟨nameAt d.s 0, nameAt d.s 1, nameAt d.s 2, nameAt d.s 3⟩ }, false)
  else if d.kind = 2 then (bOpen t d.x, false)
  else if d.kind = 3 then bClose t d.n
  else if d.kind = 4 then (bShut t d.l, false)
  else if d.kind = 5 then (bText t d.g d.n, false)
  else if d.kind = 6 then (bEnd t, false)
  else (bAdd t d.x, false)
end Go.Proofs.YtpccjgoeoeehoaaDoor
namespace Go.Proofs.YtpccjgoeoeehoaaDoor
open Go.RowKit
theorem dcell_len (v : DV) : (dcell v).length = 15 := rfl
def DosS (S : Nat → Prop) (w : World) (v : Value) (l : List Dd) : Prop := ∃ L : List DV, L.length = l.length ∧ FsS S 15 dcell w v L ∧ ∀ (i : Nat) x y, L[i]? = some x → l[i]? = some y → DdIs S w x y
theorem DosS.keep {S : Nat → Prop} {w w' : World} {v : Value} {l : List Dd} (h : DosS S w v l) (k : Kp S w w') : DosS S w' v l := by
  obtain ⟨L, h1, h2, h3⟩ := h
  exact ⟨L, h1, h2.keep k, fun i x y a b => (h3 i x y a b).keep k⟩
theorem DosS.mono {S T : Nat → Prop} {w : World} {v : Value} {l : List Dd} (h : DosS S w v l) (k : ∀ b, S b → T b) : DosS T w v l := by
  obtain ⟨L, h1, h2, h3⟩ := h
  exact ⟨L, h1, h2.mono k, fun i x y a b => (h3 i x y a b).mono k⟩
theorem DosS.len {S : Nat → Prop} {w : World} {v : Value} {l : List Dd} (h : DosS S w v l) : ∃ a cap, v = .slice a l.length cap := by
  obtain ⟨L, h1, h2, -⟩ := h
  obtain ⟨a, cap, e⟩ := h2.1.len
  exact ⟨a, cap, h1 ▸ e⟩
theorem DosS.at {S : Nat → Prop} {w : World} {a : Option Addr} {k cap : Nat} {l : List Dd} (h : DosS S w (.slice a k cap) l) {j : Nat} {y : Dd} (hy : l[j]? = some y) :
    ∃ g off x, a = some ⟨g, off, none⟩ ∧ S g ∧ (∀ (i : Nat) c, (dcell x)[i]? = some c → w.cell? ⟨g, off + j * 15 + i, none⟩ = some c) ∧ DdIs S w x y := by
  obtain ⟨L, h1, h2, h3⟩ := h
  obtain ⟨x, hx⟩ : ∃ x, L[j]? = some x := ⟨L[j]'(by have := (List.getElem?_eq_some_iff.1 hy).1; omega), List.getElem?_eq_getElem _⟩
  obtain ⟨g, off, e, hg, hc⟩ := h2.at hx
  exact ⟨g, off, x, e, hg, fun i c hi => by rw [Nat.add_assoc]; exact hc i c hi, h3 j x y hx hy⟩
def ddls (l : List Dd) : Nat := (l.map ddl).sum
theorem ddls_next {l : List Dd} {p : Nat} {x : Dd} (hx : l[p]? = some x) : ddls (l.take (p + 1)) = ddls (l.take p) + ddl x := by
  rw [List.take_add_one, hx]
  simp [ddls]
theorem ddls_take (l : List Dd) (p : Nat) : ddls (l.take p) ≤ ddls l := by
  have h : ddls (l.take p ++ l.drop p) = ddls (l.take p) + ddls (l.drop p) := by unfold ddls; rw [List.map_append, List.sum_append]
  rw [List.take_append_drop] at h
  omega
theorem ddls_le {l : List Dd} {p : Nat} {x : Dd} (hx : l[p]? = some x) : ddl x + ddls (l.take p) ≤ ddls l := by
  have h1 := ddls_next hx
  have h2 := ddls_take l (p + 1)
  omega
theorem ddls_len : ∀ l : List Dd, l.length ≤ ddls l
  | [] => by simp [ddls]
  | x :: l => by
    have := ddls_len l
    have e : ddl x = 2 + x.g.length + x.l.length + nlN x.x := rfl
    simp only [ddls, List.map_cons, List.sum_cons, List.length_cons] at this ⊢
    omega
/-- One node, written out. -/
theorem ns_one {S : Nat → Prop} {w : World} {x : NV} {y : Nd} (hS : ∀ b, S b → b < w.heap.size) (h : NdIs S w x y) :
    NsS (fun b => S b ∨ b = w.heap.size) (w.alloc (.cells (ncell x).toArray 40)) (.slice (some ⟨w.heap.size, 0, none⟩) 1 1) [y] := by
  have hk := Kp.below (below_lit w (.cells (ncell x).toArray 40)) hS
  refine .mk _ _ [x] rfl ⟨?_, fun a k c e _ => ?_⟩ (fun i x' y' a b => ?_) (fun i x' y' a b => ?_)
  · have := fs_lit ncell_len w 40 [x]
    rw [flatV_one] at this
    exact this
  · injection e with e1
    injection e1 with e1
    subst e1
    exact ⟨.inr rfl, fun _ i _ => by
      have h := heap_alloc_new w (.cells (ncell x).toArray 40)
      simp only [World.frozen?, h]
      simp⟩
  · match i, a, b with
    | 0, a, b =>
      simp at a b
      subst a b
      exact (h.1.keep hk).mono fun b q => .inl q
    | i + 1, a, _ => simp at a
  · match i, a, b with
    | 0, a, b =>
      simp at a b
      subst a b
      exact (h.2.keep hk).mono fun b q => .inl q
    | i + 1, a, _ => simp at a
set_option maxRecDepth 100000 in
set_option maxHeartbeats 8000000 in
theorem rlong8_any (S : Nat → Prop) (l : List Dd) (v : Value) (w : World) (hS : ∀ b, S b → b < w.heap.size) (hv : DosS S w v l) (hb : ddls l ≤ 1000000000) :
    Calls Tryd.prog 29 #[v] w fun e w' => e = .returned (.int .i64 (ddls l : Int)) ∧ Below w.heap.size w w' := by
  have HV := Lib.hid hv
  have HS := Lib.hid hS
  obtain ⟨va, vc, rfl⟩ := hv.len
  have hln := ddls_len l
  obtain ⟨ln, hln2⟩ : ∃ n, l.length = n := ⟨_, rfl⟩
  have HLN := Lib.hid hln2
  rw [hln2] at HV hln ⊢
  clear hv hS hln2
  go_enter Tryd.func29, Tryd.ntmps29
  go_wp2_with fail
  go_loopw [3, 4] (fun s i wr => ∃ p : Nat, p ≤ ln ∧ s = .int .i64 (ddls (l.take p) : Int) ∧ i = .int .i64 (p : Int) ∧ Hid (Below w.heap.size w wr)) (fun _ i _ => ln - (intOf i).toNat)
  case atStart => exact ⟨0, by omega, by simp [ddls], rfl, Lib.hid (Below.refl _ _)⟩
  case round =>
    obtain ⟨p, hp, rfl, rfl, BW⟩ := hrel
    by_cases hlt : p < ln
    · obtain ⟨y, hy⟩ : ∃ y, l[p]? = some y := ⟨l[p]'(by rw [HLN.out]; exact hlt), List.getElem?_eq_getElem _⟩
      have HN := Lib.hid (ddls_next hy)
      have hle := ddls_le hy
      have hdd : ddl y = 2 + y.g.length + y.l.length + nlN y.x := rfl
      obtain ⟨g, off, dv, rfl, hgS, hC, hD⟩ := (HV.out.keep (Kp.below BW.out HS.out)).at hy
      obtain ⟨A, hA⟩ : ∃ A, ddls (l.take p) = A := ⟨_, rfl⟩
      rw [hA] at HN hle ⊢
      have hx2 := hD.x
      obtain ⟨ga, gc, hge⟩ := hD.g.1.len
      obtain ⟨la, lc, hle2⟩ := hD.l.1.len
      obtain ⟨dk, ⟨s1, s2, s3⟩, ⟨xk, xl, xn, ⟨t1, t2, t3⟩, ⟨k1, k2, k3⟩, ⟨r1, r2, r3⟩, xc, ⟨q1, q2, q3⟩, xb, xa⟩, dn, ⟨l1, l2, l3⟩, ⟨g1, g2, g3⟩⟩ := dv
      simp only [pv] at hge hle2
      injection hge with h1 h2 h3
      injection hle2 with h4 h5 h6
      obtain ⟨xv, hxv⟩ : ∃ xv : NV, xv = ⟨xk, xl, xn, (t1, t2, t3), (k1, k2, k3), (r1, r2, r3), xc, (q1, q2, q3), xb, xa⟩ := ⟨_, rfl⟩
      have hSr : ∀ b, S b → b < wr.heap.size := fun b q => Nat.lt_of_lt_of_le (HS.out b q) BW.out.size
      obtain ⟨X, hX⟩ : ∃ X, X = wr := ⟨_, rfl⟩
      have hLG : Hid (∀ W, Below wr.heap.size wr W → Calls Tryd.prog 19 #[.slice (some ⟨W.heap.size, 0, none⟩) 1 1] (W.alloc (.cells (ncell ⟨xk, xl, xn, (t1, t2, t3), (k1, k2, k3), (r1, r2, r3), xc, (q1, q2, q3), xb, xa⟩).toArray 40)) fun e w' => e = .returned (.int .i64 (nlN y.x : Int)) ∧ Below wr.heap.size wr w') := Lib.hid (fun W hb => by
        have hk := Kp.below hb hSr
        have hSW : ∀ b, S b → b < W.heap.size := fun b q => Nat.lt_of_lt_of_le (hSr b q) hb.size
        have h0 := ns_one hSW (hx2.keep hk)
        have hbl := below_lit W (.cells (ncell ⟨xk, xl, xn, (t1, t2, t3), (k1, k2, k3), (r1, r2, r3), xc, (q1, q2, q3), xb, xa⟩).toArray 40)
        have e1 : nlL [y.x] = nlN y.x := by simp [nlL]
        have := rlong_any _ (cntL [y.x]) [y.x] rfl (by rw [e1]; omega) _ _ h0
        unfold RdN at this
        rw [e1] at this
        exact this.mono (fun e w' ⟨q1, m, q2⟩ => ⟨q1, hb.trans ((hbl.trans (by rw [q2]; exact below_drewN (Below.refl _ _) m)).mono hb.size)⟩))
      have hg2 : g2 = y.g.length := h2
      have hl2 : l2 = y.l.length := h5
      have hsum : A + 2 + g2 + l2 + nlN y.x = A + ddl y := by omega
      have hb2 : A + ddl y ≤ 1000000000 := by omega
      obtain ⟨nx, hnx⟩ : ∃ q, nlN y.x = q := ⟨_, rfl⟩
      rw [hnx] at hLG hsum
      have HSM := Lib.hid hsum
      have w1 : IntKind.i64.wrap ((A : Int) + 2) = (A : Int) + 2 := IntWalk.i64_in _ (by omega)
      have w2 : IntKind.i64.wrap ((A : Int) + 2 + (g2 : Int)) = (A : Int) + 2 + (g2 : Int) := IntWalk.i64_in _ (by omega)
      have w3 : IntKind.i64.wrap ((A : Int) + 2 + (g2 : Int) + (l2 : Int)) = (A : Int) + 2 + (g2 : Int) + (l2 : Int) := IntWalk.i64_in _ (by omega)
      have w4 : IntKind.i64.wrap ((A : Int) + 2 + (g2 : Int) + (l2 : Int) + (nx : Int)) = (A : Int) + 2 + (g2 : Int) + (l2 : Int) + (nx : Int) := IntWalk.i64_in _ (by omega)
      have HSC : Hid (∀ W, Below wr.heap.size wr W → W.cell? ⟨g, off + p * 15 + 14, none⟩ = some (.slice g1 g2 g3) ∧ W.cell? ⟨g, off + p * 15 + 13, none⟩ = some (.slice l1 l2 l3) ∧ W.cell? ⟨g, off + p * 15 + 2, none⟩ = some (.int .i64 xk) ∧ W.cell? ⟨g, off + p * 15 + 3, none⟩ = some (.int .i64 xl) ∧ W.cell? ⟨g, off + p * 15 + 4, none⟩ = some (.int .i64 xn) ∧ W.cell? ⟨g, off + p * 15 + 5, none⟩ = some (.slice t1 t2 t3) ∧ W.cell? ⟨g, off + p * 15 + 6, none⟩ = some (.slice k1 k2 k3) ∧ W.cell? ⟨g, off + p * 15 + 7, none⟩ = some (.slice r1 r2 r3) ∧ W.cell? ⟨g, off + p * 15 + 8, none⟩ = some (.string ⟨xc.toArray⟩) ∧ W.cell? ⟨g, off + p * 15 + 9, none⟩ = some (.slice q1 q2 q3) ∧ W.cell? ⟨g, off + p * 15 + 10, none⟩ = some (.bool xb) ∧ W.cell? ⟨g, off + p * 15 + 11, none⟩ = some (.bool xa)) := Lib.hid (fun W hb => by
        have e : ∀ j, W.cell? ⟨g, j, none⟩ = wr.cell? ⟨g, j, none⟩ := fun j => World.cell?_of_block (hb.block g (hSr g hgS))
        exact ⟨(e _).trans (hC 14 _ rfl), (e _).trans (hC 13 _ rfl), (e _).trans (hC 2 _ rfl), (e _).trans (hC 3 _ rfl), (e _).trans (hC 4 _ rfl), (e _).trans (hC 5 _ rfl), (e _).trans (hC 6 _ rfl), (e _).trans (hC 7 _ rfl), (e _).trans (hC 8 _ rfl), (e _).trans (hC 9 _ rfl), (e _).trans (hC 10 _ rfl), (e _).trans (hC 11 _ rfl)⟩)
      have HX : Hid (Below wr.heap.size wr wr.drew) := Lib.hid (Below.refl _ wr).drew
      have hlt' : (p : Int) < (ln : Int) := by omega
      have hp0 : (0 : Int) ≤ (p : Int) := by omega
      simp only [ncell, pv] at hLG
      clear hy hle hdd hC hD hx2 h1 h2 h3 h4 h5 h6 hxv hSr hX hg2 hl2 hsum hb2 hnx hA hgS X xv
      go_upto_region 5 with fail
      refine wp_region_held_drew (S := (fun W' => W'.cell? ⟨g, off + p * 15 + 14, none⟩ = some (.slice g1 g2 g3) ∧ W'.cell? ⟨g, off + p * 15 + 13, none⟩ = some (.slice l1 l2 l3) ∧ W'.cell? ⟨g, off + p * 15 + 2, none⟩ = some (.int .i64 xk) ∧ W'.cell? ⟨g, off + p * 15 + 3, none⟩ = some (.int .i64 xl) ∧ W'.cell? ⟨g, off + p * 15 + 4, none⟩ = some (.int .i64 xn) ∧ W'.cell? ⟨g, off + p * 15 + 5, none⟩ = some (.slice t1 t2 t3) ∧ W'.cell? ⟨g, off + p * 15 + 6, none⟩ = some (.slice k1 k2 k3) ∧ W'.cell? ⟨g, off + p * 15 + 7, none⟩ = some (.slice r1 r2 r3) ∧ W'.cell? ⟨g, off + p * 15 + 8, none⟩ = some (.string ⟨xc.toArray⟩) ∧ W'.cell? ⟨g, off + p * 15 + 9, none⟩ = some (.slice q1 q2 q3) ∧ W'.cell? ⟨g, off + p * 15 + 10, none⟩ = some (.bool xb) ∧ W'.cell? ⟨g, off + p * 15 + 11, none⟩ = some (.bool xa))) (by kernel_rfl) ?_ (fun hHeld => ?_)
      · exact HSC.out _ HX.out
      refine wpAnyH_take (i := 0) (v := .int .i64 A) rfl (by kernel_rfl) (by kernel_rfl) (by kernel_rfl) (fun _ _ _ h => h) (Or.inl ⟨by rfl, fun w' hSw => by (try dsimp only at hSw); go_simp⟩) (by assumption) ?_
      simp only [List.getElem_toArray, List.getElem_cons_succ, List.getElem_cons_zero, Act.put, List.setIfInBounds_toArray, List.set_cons_zero, List.set_cons_succ]
      refine wpAnyH_take (i := 1) (v := .int .i64 (A + 2)) rfl (by kernel_rfl) (by kernel_rfl) (by kernel_rfl) (fun _ _ _ h => h) (Or.inl ⟨by rfl, fun w' hSw => by (try dsimp only at hSw); go_simp⟩) (by assumption) ?_
      simp only [List.getElem_toArray, List.getElem_cons_succ, List.getElem_cons_zero, Act.put, List.setIfInBounds_toArray, List.set_cons_zero, List.set_cons_succ]
      refine wpAnyH_take (i := 2) (v := .slice (some ⟨g, off, none⟩) ln vc) rfl (by kernel_rfl) (by kernel_rfl) (by kernel_rfl) (fun _ _ _ h => h) (Or.inl ⟨by rfl, fun w' hSw => by (try dsimp only at hSw); go_simp⟩) (by assumption) ?_
      simp only [List.getElem_toArray, List.getElem_cons_succ, List.getElem_cons_zero, Act.put, List.setIfInBounds_toArray, List.set_cons_zero, List.set_cons_succ]
      refine wpAnyH_take (i := 3) (v := .int .i64 p) rfl (by kernel_rfl) (by kernel_rfl) (by kernel_rfl) (fun _ _ _ h => h) (Or.inl ⟨by rfl, fun w' hSw => by (try dsimp only at hSw); go_simp⟩) (by assumption) ?_
      simp only [List.getElem_toArray, List.getElem_cons_succ, List.getElem_cons_zero, Act.put, List.setIfInBounds_toArray, List.set_cons_zero, List.set_cons_succ]
      refine wpAnyH_take (i := 4) (v := .pointer (some ⟨g, off + p * 15, none⟩)) rfl (by kernel_rfl) (by kernel_rfl) (by kernel_rfl) (fun _ _ _ h => h) (Or.inl ⟨by rfl, fun w' hSw => by (try dsimp only at hSw); go_simp⟩) (by assumption) ?_
      simp only [List.getElem_toArray, List.getElem_cons_succ, List.getElem_cons_zero, Act.put, List.setIfInBounds_toArray, List.set_cons_zero, List.set_cons_succ]
      refine wpAnyH_take (i := 5) (v := .pointer (some ⟨g, off + p * 15 + 14, none⟩)) rfl (by kernel_rfl) (by kernel_rfl) (by kernel_rfl) (fun _ _ _ h => h) (Or.inl ⟨by rfl, fun w' hSw => by (try dsimp only at hSw); go_simp⟩) (by assumption) ?_
      simp only [List.getElem_toArray, List.getElem_cons_succ, List.getElem_cons_zero, Act.put, List.setIfInBounds_toArray, List.set_cons_zero, List.set_cons_succ]
      refine wpAnyH_take (i := 6) (v := .slice g1 g2 g3) rfl (by kernel_rfl) (by kernel_rfl) (by kernel_rfl) (fun _ _ _ h => h) (Or.inl ⟨by rfl, fun w' hSw => by (try dsimp only at hSw); go_simp⟩) (by assumption) ?_
      simp only [List.getElem_toArray, List.getElem_cons_succ, List.getElem_cons_zero, Act.put, List.setIfInBounds_toArray, List.set_cons_zero, List.set_cons_succ]
      refine wpAnyH_take (i := 7) (v := .int .i64 g2) rfl (by kernel_rfl) (by kernel_rfl) (by kernel_rfl) (fun _ _ _ h => h) (Or.inl ⟨by rfl, fun w' hSw => by (try dsimp only at hSw); go_simp⟩) (by assumption) ?_
      simp only [List.getElem_toArray, List.getElem_cons_succ, List.getElem_cons_zero, Act.put, List.setIfInBounds_toArray, List.set_cons_zero, List.set_cons_succ]
      refine wpAnyH_take (i := 8) (v := .int .i64 (A + 2 + g2)) rfl (by kernel_rfl) (by kernel_rfl) (by kernel_rfl) (fun _ _ _ h => h) (Or.inl ⟨by rfl, fun w' hSw => by (try dsimp only at hSw); go_simp⟩) (by assumption) ?_
      simp only [List.getElem_toArray, List.getElem_cons_succ, List.getElem_cons_zero, Act.put, List.setIfInBounds_toArray, List.set_cons_zero, List.set_cons_succ]
      refine wpAnyH_take (i := 9) (v := .slice (some ⟨g, off, none⟩) ln vc) rfl (by kernel_rfl) (by kernel_rfl) (by kernel_rfl) (fun _ _ _ h => h) (Or.inl ⟨by rfl, fun w' hSw => by (try dsimp only at hSw); go_simp⟩) (by assumption) ?_
      simp only [List.getElem_toArray, List.getElem_cons_succ, List.getElem_cons_zero, Act.put, List.setIfInBounds_toArray, List.set_cons_zero, List.set_cons_succ]
      refine wpAnyH_take (i := 10) (v := .int .i64 p) rfl (by kernel_rfl) (by kernel_rfl) (by kernel_rfl) (fun _ _ _ h => h) (Or.inl ⟨by rfl, fun w' hSw => by (try dsimp only at hSw); go_simp⟩) (by assumption) ?_
      simp only [List.getElem_toArray, List.getElem_cons_succ, List.getElem_cons_zero, Act.put, List.setIfInBounds_toArray, List.set_cons_zero, List.set_cons_succ]
      refine wpAnyH_take (i := 11) (v := .pointer (some ⟨g, off + p * 15, none⟩)) rfl (by kernel_rfl) (by kernel_rfl) (by kernel_rfl) (fun _ _ _ h => h) (Or.inl ⟨by rfl, fun w' hSw => by (try dsimp only at hSw); go_simp⟩) (by assumption) ?_
      simp only [List.getElem_toArray, List.getElem_cons_succ, List.getElem_cons_zero, Act.put, List.setIfInBounds_toArray, List.set_cons_zero, List.set_cons_succ]
      refine wpAnyH_take (i := 12) (v := .pointer (some ⟨g, off + p * 15 + 13, none⟩)) rfl (by kernel_rfl) (by kernel_rfl) (by kernel_rfl) (fun _ _ _ h => h) (Or.inl ⟨by rfl, fun w' hSw => by (try dsimp only at hSw); go_simp⟩) (by assumption) ?_
      simp only [List.getElem_toArray, List.getElem_cons_succ, List.getElem_cons_zero, Act.put, List.setIfInBounds_toArray, List.set_cons_zero, List.set_cons_succ]
      refine wpAnyH_take (i := 13) (v := .slice l1 l2 l3) rfl (by kernel_rfl) (by kernel_rfl) (by kernel_rfl) (fun _ _ _ h => h) (Or.inl ⟨by rfl, fun w' hSw => by (try dsimp only at hSw); go_simp⟩) (by assumption) ?_
      simp only [List.getElem_toArray, List.getElem_cons_succ, List.getElem_cons_zero, Act.put, List.setIfInBounds_toArray, List.set_cons_zero, List.set_cons_succ]
      refine wpAnyH_take (i := 14) (v := .int .i64 l2) rfl (by kernel_rfl) (by kernel_rfl) (by kernel_rfl) (fun _ _ _ h => h) (Or.inl ⟨by rfl, fun w' hSw => by (try dsimp only at hSw); go_simp⟩) (by assumption) ?_
      simp only [List.getElem_toArray, List.getElem_cons_succ, List.getElem_cons_zero, Act.put, List.setIfInBounds_toArray, List.set_cons_zero, List.set_cons_succ]
      refine wpAnyH_take (i := 15) (v := .int .i64 (A + 2 + g2 + l2)) rfl (by kernel_rfl) (by kernel_rfl) (by kernel_rfl) (fun _ _ _ h => h) (Or.inl ⟨by rfl, fun w' hSw => by (try dsimp only at hSw); go_simp⟩) (by assumption) ?_
      simp only [List.getElem_toArray, List.getElem_cons_succ, List.getElem_cons_zero, Act.put, List.setIfInBounds_toArray, List.set_cons_zero, List.set_cons_succ]
      refine wpAnyH_take (i := 16) (v := .slice (some ⟨g, off, none⟩) ln vc) rfl (by kernel_rfl) (by kernel_rfl) (by kernel_rfl) (fun _ _ _ h => h) (Or.inl ⟨by rfl, fun w' hSw => by (try dsimp only at hSw); go_simp⟩) (by assumption) ?_
      simp only [List.getElem_toArray, List.getElem_cons_succ, List.getElem_cons_zero, Act.put, List.setIfInBounds_toArray, List.set_cons_zero, List.set_cons_succ]
      refine wpAnyH_take (i := 17) (v := .int .i64 p) rfl (by kernel_rfl) (by kernel_rfl) (by kernel_rfl) (fun _ _ _ h => h) (Or.inl ⟨by rfl, fun w' hSw => by (try dsimp only at hSw); go_simp⟩) (by assumption) ?_
      simp only [List.getElem_toArray, List.getElem_cons_succ, List.getElem_cons_zero, Act.put, List.setIfInBounds_toArray, List.set_cons_zero, List.set_cons_succ]
      refine wpAnyH_take (i := 18) (v := .pointer (some ⟨g, off + p * 15, none⟩)) rfl (by kernel_rfl) (by kernel_rfl) (by kernel_rfl) (fun _ _ _ h => h) (Or.inl ⟨by rfl, fun w' hSw => by (try dsimp only at hSw); go_simp⟩) (by assumption) ?_
      simp only [List.getElem_toArray, List.getElem_cons_succ, List.getElem_cons_zero, Act.put, List.setIfInBounds_toArray, List.set_cons_zero, List.set_cons_succ]
      refine wpAnyH_take (i := 19) (v := .pointer (some ⟨g, off + p * 15 + 2, none⟩)) rfl (by kernel_rfl) (by kernel_rfl) (by kernel_rfl) (fun _ _ _ h => h) (Or.inl ⟨by rfl, fun w' hSw => by (try dsimp only at hSw); go_simp⟩) (by assumption) ?_
      simp only [List.getElem_toArray, List.getElem_cons_succ, List.getElem_cons_zero, Act.put, List.setIfInBounds_toArray, List.set_cons_zero, List.set_cons_succ]
      refine wpAnyH_take (i := 20) (v := .agg #[.int .i64 xk, .int .i64 xl, .int .i64 xn, .slice t1 t2 t3, .slice k1 k2 k3, .slice r1 r2 r3, .string ⟨xc.toArray⟩, .slice q1 q2 q3, .bool xb, .bool xa]) rfl (by kernel_rfl) (by kernel_rfl) (by kernel_rfl) (fun _ _ _ h => h) (Or.inl ⟨by rfl, fun w' hSw => by (try dsimp only at hSw); go_simp⟩) (by assumption) ?_
      simp only [List.getElem_toArray, List.getElem_cons_succ, List.getElem_cons_zero, Act.put, List.setIfInBounds_toArray, List.set_cons_zero, List.set_cons_succ]
      refine wpAnyH_ready (rs := [21]) (by kernel_rfl) (by simp) ?_
      refine AllReadyH.cons rfl (fun K hK => ?_) AllReadyH.nil
      try simp only [List.getElem_toArray, List.getElem_cons_succ, List.getElem_cons_zero]
      go_simp
      refine hK.out _ _ ?_ (fun hHeld => ?_)
      · exact HSC.out _ (HX.out.alloc HX.out.size _)
      clear hK K
      try simp only [List.getElem_toArray, List.getElem_cons_succ, List.getElem_cons_zero, Act.put, List.setIfInBounds_toArray, List.set_cons_zero, List.set_cons_succ]
      refine wpAnyH_ready (rs := [22]) (by kernel_rfl) (by simp) ?_
      refine AllReadyH.cons rfl (fun K hK => ?_) AllReadyH.nil
      try simp only [List.getElem_toArray, List.getElem_cons_succ, List.getElem_cons_zero]
      go_simp
      go_at_call 19
      refine (hLG.out wr.drew HX.out).mono ?_
      rintro e w7 ⟨rfl, b7⟩
      clear HX
      have HX := Lib.hid b7
      clear b7
      go_wp2_with fail
      refine hK.out _ _ ?_ (fun hHeld => ?_)
      · exact HSC.out _ HX.out
      clear hK K
      try simp only [List.getElem_toArray, List.getElem_cons_succ, List.getElem_cons_zero, Act.put, List.setIfInBounds_toArray, List.set_cons_zero, List.set_cons_succ]
      refine wpAnyH_take (i := 23) (v := .int .i64 (A + 2 + g2 + l2 + nx)) rfl (by kernel_rfl) (by kernel_rfl) (by kernel_rfl) (fun _ _ _ h => h) (Or.inl ⟨by rfl, fun w' hSw => by (try dsimp only at hSw); go_simp⟩) (by assumption) ?_
      simp only [List.getElem_toArray, List.getElem_cons_succ, List.getElem_cons_zero, Act.put, List.setIfInBounds_toArray, List.set_cons_zero, List.set_cons_succ]
      refine wpAnyH_take (i := 24) (v := .int .i64 (A + 2 + g2 + l2 + nx)) rfl (by kernel_rfl) (by kernel_rfl) (by kernel_rfl) (fun _ _ _ h => h) (Or.inl ⟨by rfl, fun w' hSw => by (try dsimp only at hSw); go_simp⟩) (by assumption) ?_
      simp only [List.getElem_toArray, List.getElem_cons_succ, List.getElem_cons_zero, Act.put, List.setIfInBounds_toArray, List.set_cons_zero, List.set_cons_succ]
      refine wpAnyH_done (by kernel_rfl) ?_ _
      go_wp2_with fail
      go_roundw
      case rel => exact ⟨p + 1, by omega, by rw [HN.out, ← HSM.out]; go_num, by go_num, Lib.hid (BW.out.trans (HX.out.mono BW.out.size))⟩
      case measure => (simp [intOf]; try omega)
    · obtain rfl : p = ln := by omega
      have hlt' : ¬ (p : Int) < (p : Int) := by omega
      rw [List.take_of_length_le (by rw [HLN.out]; omega)]
      go_wp2_with fail
      go_ret
      exact ⟨rfl, BW.out⟩
end Go.Proofs.YtpccjgoeoeehoaaDoor
namespace Go.Proofs.YtpccjgoeoeehoaaDoor
open Go.RowKit
def longD (l : List Dd) : Bool := decide (800 < ddls l) || decide (60 < l.length)
theorem longD_false {l : List Dd} (h : longD l = false) : ddls l ≤ 800 ∧ l.length ≤ 60 := by
  unfold longD at h
  simp only [Bool.or_eq_false_iff, decide_eq_false_iff_not] at h
  omega
set_option maxRecDepth 100000 in
theorem llong_any (S : Nat → Prop) (l : List Dd) (v : Value) (w : World) (hS : ∀ b, S b → b < w.heap.size) (hv : DosS S w v l) (hb : ddls l ≤ 1000000000) :
    Calls Tryd.prog 8 #[v] w fun e w' => e = .returned (.bool (longD l)) ∧ Below w.heap.size w w' := by
  have HL := Lib.hid (rlong8_any S l v w hS hv hb)
  obtain ⟨va, vc, rfl⟩ := hv.len
  have hln := ddls_len l
  unfold longD
  obtain ⟨n, hn⟩ : ∃ n, ddls l = n := ⟨_, rfl⟩
  obtain ⟨k, hk⟩ : ∃ n, l.length = n := ⟨_, rfl⟩
  rw [hn, hk] at HL hln
  rw [hn] at hb
  rw [hn, hk]
  obtain ⟨R, hR⟩ : ∃ R, (decide (800 < n) || decide (60 < k)) = R := ⟨_, rfl⟩
  rw [hR]
  have HR := Lib.hid hR
  clear hv hn hk hS hR
  go_enter Tryd.func8, Tryd.ntmps8
  go_wp2_with fail
  refine HL.out.mono ?_
  rintro e w1 ⟨rfl, b1⟩
  have B1 := Lib.hid b1
  clear b1 HL
  by_cases h1 : 800 < n
  · have e1 : decide (800 < n) = true := decide_eq_true h1
    have e2 : decide ((n : Int) > 800) = true := decide_eq_true (by omega)
    have e3 : decide ((800 : Int) < (n : Int)) = true := decide_eq_true (by omega)
    have HQ : Hid (true = R) := Lib.hid (by rw [← HR.out, e1]; rfl)
    clear e1
    go_wp2_with fail
    go_ret
    exact ⟨ret_bool HQ.out, B1.out⟩
  · have e1 : decide (800 < n) = false := decide_eq_false h1
    have e2 : decide ((n : Int) > 800) = false := decide_eq_false (by omega)
    have e3 : decide ((800 : Int) < (n : Int)) = false := decide_eq_false (by omega)
    by_cases h2 : 60 < k
    · have f1 : decide (60 < k) = true := decide_eq_true h2
      have f2 : decide ((k : Int) > 60) = true := decide_eq_true (by omega)
      have f3 : decide ((60 : Int) < (k : Int)) = true := decide_eq_true (by omega)
      have HQ : Hid (true = R) := Lib.hid (by rw [← HR.out, e1, f1]; rfl)
      clear e1 f1
      go_wp2_with fail
      go_ret
      exact ⟨ret_bool HQ.out, B1.out⟩
    · have f1 : decide (60 < k) = false := decide_eq_false h2
      have f2 : decide ((k : Int) > 60) = false := decide_eq_false (by omega)
      have f3 : decide ((60 : Int) < (k : Int)) = false := decide_eq_false (by omega)
      have HQ : Hid (false = R) := Lib.hid (by rw [← HR.out, e1, f1]; rfl)
      clear e1 f1
      go_wp2_with fail
      go_ret
      exact ⟨ret_bool HQ.out, B1.out⟩
set_option maxRecDepth 100000 in
theorem lname_any (fn : Nat) (l : List (List UInt8)) (k : Nat) (v : Value) (w : World) (hv : Fs 1 scell w v l) (hl : l.length ≤ 2000000) (hk : k ≤ 3) :
    Calls Tryd.prog 32 #[v, .int .i64 (k : Int)] w fun e w' => e = .returned (.string ⟨(nameAt l k).toArray⟩) ∧ w' = w := by
  obtain ⟨a, c, rfl, -, hr⟩ := hv
  by_cases hlt : k < l.length
  · obtain ⟨x, hx⟩ : ∃ x, l[k]? = some x := ⟨l[k], List.getElem?_eq_getElem hlt⟩
    obtain ⟨g, off, rfl, hc⟩ := hr k x hx
    have c0 := hc 0 _ rfl
    rw [Nat.mul_one, Nat.add_zero] at c0
    have hN : nameAt l k = x := by unfold nameAt; rw [List.getD_eq_getElem?_getD, hx]; rfl
    rw [hN]
    have h1 : ¬ ((k : Int) ≥ (l.length : Int)) := by omega
    have h2 : (k : Int) < (l.length : Int) := by omega
    have h3 : (0 : Int) ≤ (k : Int) := by omega
    clear hN hx hc hr
    go_enter Tryd.func32, Tryd.ntmps32
    go_wp2_with fail
    go_ret
    exact ⟨rfl, rfl⟩
  · have hN : nameAt l k = [] := by unfold nameAt; rw [List.getD_eq_getElem?_getD, List.getElem?_eq_none (by omega)]; rfl
    rw [hN]
    have h1 : ((k : Int) ≥ (l.length : Int)) := by omega
    clear hr hN
    go_enter Tryd.func32, Tryd.ntmps32
    go_wp2_with fail
    go_ret
    exact ⟨rfl, rfl⟩
end Go.Proofs.YtpccjgoeoeehoaaDoor
namespace Go.Proofs.YtpccjgoeoeehoaaDoor
open Go.RowKit
/-- What a builder's own functions do with what is told, in every world behind w. -/
structure Told (P : Bt → World → Prop) (bp : Value) (t : Bt) (dv : DV) (d : Dd) (w : World) : Prop where
  title : d.kind = 1 → ∀ W, Below w.heap.size w W → Calls Tryd.prog 28 #[bp, .string ⟨(nameAt d.s 0).toArray⟩, .string ⟨(nameAt d.s 1).toArray⟩, .string ⟨(nameAt d.s 2).toArray⟩, .string ⟨(nameAt d.s 3).toArray⟩] W fun e w' => e = .returned (.tuple #[]) ∧ P (bStep t d).1 w' ∧ ∀ k, w.heap.size ≤ k → k < W.heap.size → w'.heap[k]? = W.heap[k]?
  opn : d.kind = 2 → ∀ W, Below w.heap.size w W → Calls Tryd.prog 30 #[bp, .agg (ncell dv.x).toArray] W fun e w' => e = .returned (.tuple #[]) ∧ P (bStep t d).1 w'
  close : d.kind = 3 → ∀ W, Below w.heap.size w W → Calls Tryd.prog 27 #[bp, .int .i64 d.n] W fun e w' => e = .returned (.bool (bStep t d).2) ∧ P (bStep t d).1 w'
  shut : d.kind = 4 → ∀ W, Below w.heap.size w W → Calls Tryd.prog 23 #[bp, pv dv.l] W fun e w' => e = .returned (.tuple #[]) ∧ P (bStep t d).1 w'
  text : d.kind = 5 → ∀ W, Below w.heap.size w W → Calls Tryd.prog 24 #[bp, pv dv.g, .int .i64 d.n] W fun e w' => e = .returned (.tuple #[]) ∧ P (bStep t d).1 w'
  nd : d.kind = 6 → ∀ W, Below w.heap.size w W → Calls Tryd.prog 22 #[bp] W fun e w' => e = .returned (.tuple #[]) ∧ P (bStep t d).1 w'
  add : ¬ d.kind = 1 → ¬ d.kind = 2 → ¬ d.kind = 3 → ¬ d.kind = 4 → ¬ d.kind = 5 → ¬ d.kind = 6 → ∀ W, Below w.heap.size w W → Calls Tryd.prog 20 #[bp, .agg (ncell dv.x).toArray] W fun e w' => e = .returned (.tuple #[]) ∧ P (bStep t d).1 w'
theorem bStep_false {t : Bt} {d : Dd} (h : ¬ d.kind = 3) : (bStep t d).2 = false := by
  unfold bStep
  repeat' split
  all_goals first | rfl | (exact absurd (by assumption) h)
set_option maxRecDepth 100000 in
set_option maxHeartbeats 8000000 in
theorem ldone_any (P : Bt → World → Prop) (S : Nat → Prop) (bb : Nat) (t : Bt) (dv : DV) (d : Dd) (w : World) (hS : ∀ b, S b → b < w.heap.size) (hd : DdIs S w dv d) (hs : d.s.length ≤ 2000000) (hT : Told P (.pointer (some ⟨bb, 0, none⟩)) t dv d w) :
    Calls Tryd.prog 11 #[.pointer (some ⟨bb, 0, none⟩), .agg (dcell dv).toArray] w fun e w' => e = .returned (.bool (bStep t d).2) ∧ P (bStep t d).1 w' := by
  obtain ⟨W0, hW0⟩ : ∃ W, W = w.alloc (.cells (dcell dv).toArray 43) := ⟨_, rfl⟩
  have b0 : Below w.heap.size w W0 := by rw [hW0]; exact below_lit w _
  have kD : Blk W0 w.heap.size 43 (dcell dv) := by rw [hW0]; exact heap_alloc_new w _
  have hss := hd.s.keep (Kp.below b0 hS)
  have hS0 : ∀ b, S b → b < W0.heap.size := fun b q => Nat.lt_of_lt_of_le (hS b q) b0.size
  obtain ⟨dk, ⟨s1, s2, s3⟩, ⟨xk, xl, xn, ⟨t1, t2, t3⟩, ⟨k1, k2, k3⟩, ⟨r1, r2, r3⟩, xc, ⟨q1, q2, q3⟩, xb, xa⟩, dn, ⟨l1, l2, l3⟩, ⟨g1, g2, g3⟩⟩ := dv
  have ek := hd.kind
  have en := hd.n
  simp only at ek en
  have HT := Lib.hid hT
  have HW0 := Lib.hid hW0
  have HKD := Lib.hid kD
  have HSS := Lib.hid hss
  have HS0 := Lib.hid hS0
  have HB0 := Lib.hid b0
  have HEK := Lib.hid ek.symm
  have HEN := Lib.hid en.symm
  simp only [dcell, pv] at HKD
  have m0 : W0.cell? ⟨w.heap.size, 0, none⟩ = some (.int .i64 dk) := HKD.out.cell 0
  have m1 : W0.cell? ⟨w.heap.size, 1, none⟩ = some (.slice s1 s2 s3) := HKD.out.cell 1
  have m2 : W0.cell? ⟨w.heap.size, 2, none⟩ = some (.int .i64 xk) := HKD.out.cell 2
  have m3 : W0.cell? ⟨w.heap.size, 3, none⟩ = some (.int .i64 xl) := HKD.out.cell 3
  have m4 : W0.cell? ⟨w.heap.size, 4, none⟩ = some (.int .i64 xn) := HKD.out.cell 4
  have m5 : W0.cell? ⟨w.heap.size, 5, none⟩ = some (.slice t1 t2 t3) := HKD.out.cell 5
  have m6 : W0.cell? ⟨w.heap.size, 6, none⟩ = some (.slice k1 k2 k3) := HKD.out.cell 6
  have m7 : W0.cell? ⟨w.heap.size, 7, none⟩ = some (.slice r1 r2 r3) := HKD.out.cell 7
  have m8 : W0.cell? ⟨w.heap.size, 8, none⟩ = some (.string ⟨xc.toArray⟩) := HKD.out.cell 8
  have m9 : W0.cell? ⟨w.heap.size, 9, none⟩ = some (.slice q1 q2 q3) := HKD.out.cell 9
  have m10 : W0.cell? ⟨w.heap.size, 10, none⟩ = some (.bool xb) := HKD.out.cell 10
  have m11 : W0.cell? ⟨w.heap.size, 11, none⟩ = some (.bool xa) := HKD.out.cell 11
  have m12 : W0.cell? ⟨w.heap.size, 12, none⟩ = some (.int .i64 dn) := HKD.out.cell 12
  have m13 : W0.cell? ⟨w.heap.size, 13, none⟩ = some (.slice l1 l2 l3) := HKD.out.cell 13
  have m14 : W0.cell? ⟨w.heap.size, 14, none⟩ = some (.slice g1 g2 g3) := HKD.out.cell 14
  obtain ⟨RR, hRR⟩ : ∃ r, (bStep t d).2 = r := ⟨_, rfl⟩
  rw [hRR]
  have HRR := Lib.hid hRR
  clear hT hW0 kD hss hS0 b0 ek en hd hS hRR
  go_enter Tryd.func11, Tryd.ntmps11
  go_upto_region 1 with fail
  rw [← HW0.out]
  clear HW0
  by_cases c1 : dk = 1
  · subst c1
    have e11 : ((1 : Int) == 1) = true := rfl
    have HF3 : Hid (RR = false) := Lib.hid (by rw [← HRR.out]; exact bStep_false (by rw [HEK.out]; omega))
    have HSC : Hid (∀ W, Below W0.heap.size W0 W → W.cell? ⟨w.heap.size, 1, none⟩ = some (.slice s1 s2 s3)) := Lib.hid (fun W hb => (HKD.out.below hb).cell 1)
    have HNM : Hid (∀ W (k : Nat), Below W0.heap.size W0 W → k ≤ 3 → Calls Tryd.prog 32 #[.slice s1 s2 s3, .int .i64 (k : Int)] W fun e w' => e = .returned (.string ⟨(nameAt d.s k).toArray⟩) ∧ w' = W) := Lib.hid (fun W k hb hk => lname_any 0 d.s k _ W (HSS.out.keep (Kp.below hb HS0.out)).1 hs hk)
    have hQ := HT.out.title HEK.out
    obtain ⟨n0, hn0⟩ : ∃ q, nameAt d.s 0 = q := ⟨_, rfl⟩
    obtain ⟨n1, hn1⟩ : ∃ q, nameAt d.s 1 = q := ⟨_, rfl⟩
    obtain ⟨n2, hn2⟩ : ∃ q, nameAt d.s 2 = q := ⟨_, rfl⟩
    obtain ⟨n3, hn3⟩ : ∃ q, nameAt d.s 3 = q := ⟨_, rfl⟩
    rw [hn0, hn1, hn2, hn3] at hQ
    have HQ := Lib.hid hQ
    have HN0 : Hid (∀ W, Below W0.heap.size W0 W → Calls Tryd.prog 32 #[.slice s1 s2 s3, .int .i64 0] W fun e w' => e = .returned (.string ⟨n0.toArray⟩) ∧ w' = W) := Lib.hid (fun W hb => by have := HNM.out W 0 hb (by omega); rw [hn0] at this; exact this)
    have HN1 : Hid (∀ W, Below W0.heap.size W0 W → Calls Tryd.prog 32 #[.slice s1 s2 s3, .int .i64 1] W fun e w' => e = .returned (.string ⟨n1.toArray⟩) ∧ w' = W) := Lib.hid (fun W hb => by have := HNM.out W 1 hb (by omega); rw [hn1] at this; exact this)
    have HN2 : Hid (∀ W, Below W0.heap.size W0 W → Calls Tryd.prog 32 #[.slice s1 s2 s3, .int .i64 2] W fun e w' => e = .returned (.string ⟨n2.toArray⟩) ∧ w' = W) := Lib.hid (fun W hb => by have := HNM.out W 2 hb (by omega); rw [hn2] at this; exact this)
    have HN3 : Hid (∀ W, Below W0.heap.size W0 W → Calls Tryd.prog 32 #[.slice s1 s2 s3, .int .i64 3] W fun e w' => e = .returned (.string ⟨n3.toArray⟩) ∧ w' = W) := Lib.hid (fun W hb => by have := HNM.out W 3 hb (by omega); rw [hn3] at this; exact this)
    clear hQ hn0 hn1 hn2 hn3 HNM
    have HX : Hid (Below W0.heap.size W0 W0.drew) := Lib.hid (Below.refl _ W0).drew
    go_upto_region 4 with fail
    refine wp_region_held_drew (S := (fun W' => W'.cell? ⟨w.heap.size, 1, none⟩ = some (.slice s1 s2 s3))) (by kernel_rfl) ?_ (fun hHeld => ?_)
    · exact HSC.out _ HX.out
    refine wpAnyH_take (i := 0) (v := .pointer (some ⟨bb, 0, none⟩)) rfl (by kernel_rfl) (by kernel_rfl) (by kernel_rfl) (fun _ _ _ h => h) (Or.inl ⟨by rfl, fun w' hSw => by (try dsimp only at hSw); go_simp⟩) (by assumption) ?_
    simp only [List.getElem_toArray, List.getElem_cons_succ, List.getElem_cons_zero, Act.put, List.setIfInBounds_toArray, List.set_cons_zero, List.set_cons_succ]
    refine wpAnyH_take (i := 1) (v := .pointer (some ⟨w.heap.size, 1, none⟩)) rfl (by kernel_rfl) (by kernel_rfl) (by kernel_rfl) (fun _ _ _ h => h) (Or.inl ⟨by rfl, fun w' hSw => by (try dsimp only at hSw); go_simp⟩) (by assumption) ?_
    simp only [List.getElem_toArray, List.getElem_cons_succ, List.getElem_cons_zero, Act.put, List.setIfInBounds_toArray, List.set_cons_zero, List.set_cons_succ]
    refine wpAnyH_take (i := 2) (v := .slice s1 s2 s3) rfl (by kernel_rfl) (by kernel_rfl) (by kernel_rfl) (fun _ _ _ h => h) (Or.inl ⟨by rfl, fun w' hSw => by (try dsimp only at hSw); go_simp⟩) (by assumption) ?_
    simp only [List.getElem_toArray, List.getElem_cons_succ, List.getElem_cons_zero, Act.put, List.setIfInBounds_toArray, List.set_cons_zero, List.set_cons_succ]
    refine wpAnyH_take (i := 4) (v := .pointer (some ⟨w.heap.size, 1, none⟩)) rfl (by kernel_rfl) (by kernel_rfl) (by kernel_rfl) (fun _ _ _ h => h) (Or.inl ⟨by rfl, fun w' hSw => by (try dsimp only at hSw); go_simp⟩) (by assumption) ?_
    simp only [List.getElem_toArray, List.getElem_cons_succ, List.getElem_cons_zero, Act.put, List.setIfInBounds_toArray, List.set_cons_zero, List.set_cons_succ]
    refine wpAnyH_take (i := 5) (v := .slice s1 s2 s3) rfl (by kernel_rfl) (by kernel_rfl) (by kernel_rfl) (fun _ _ _ h => h) (Or.inl ⟨by rfl, fun w' hSw => by (try dsimp only at hSw); go_simp⟩) (by assumption) ?_
    simp only [List.getElem_toArray, List.getElem_cons_succ, List.getElem_cons_zero, Act.put, List.setIfInBounds_toArray, List.set_cons_zero, List.set_cons_succ]
    refine wpAnyH_take (i := 7) (v := .pointer (some ⟨w.heap.size, 1, none⟩)) rfl (by kernel_rfl) (by kernel_rfl) (by kernel_rfl) (fun _ _ _ h => h) (Or.inl ⟨by rfl, fun w' hSw => by (try dsimp only at hSw); go_simp⟩) (by assumption) ?_
    simp only [List.getElem_toArray, List.getElem_cons_succ, List.getElem_cons_zero, Act.put, List.setIfInBounds_toArray, List.set_cons_zero, List.set_cons_succ]
    refine wpAnyH_take (i := 8) (v := .slice s1 s2 s3) rfl (by kernel_rfl) (by kernel_rfl) (by kernel_rfl) (fun _ _ _ h => h) (Or.inl ⟨by rfl, fun w' hSw => by (try dsimp only at hSw); go_simp⟩) (by assumption) ?_
    simp only [List.getElem_toArray, List.getElem_cons_succ, List.getElem_cons_zero, Act.put, List.setIfInBounds_toArray, List.set_cons_zero, List.set_cons_succ]
    refine wpAnyH_take (i := 10) (v := .pointer (some ⟨w.heap.size, 1, none⟩)) rfl (by kernel_rfl) (by kernel_rfl) (by kernel_rfl) (fun _ _ _ h => h) (Or.inl ⟨by rfl, fun w' hSw => by (try dsimp only at hSw); go_simp⟩) (by assumption) ?_
    simp only [List.getElem_toArray, List.getElem_cons_succ, List.getElem_cons_zero, Act.put, List.setIfInBounds_toArray, List.set_cons_zero, List.set_cons_succ]
    refine wpAnyH_take (i := 11) (v := .slice s1 s2 s3) rfl (by kernel_rfl) (by kernel_rfl) (by kernel_rfl) (fun _ _ _ h => h) (Or.inl ⟨by rfl, fun w' hSw => by (try dsimp only at hSw); go_simp⟩) (by assumption) ?_
    simp only [List.getElem_toArray, List.getElem_cons_succ, List.getElem_cons_zero, Act.put, List.setIfInBounds_toArray, List.set_cons_zero, List.set_cons_succ]
    refine wpAnyH_ready (rs := [3]) (by kernel_rfl) (by simp) ?_
    refine AllReadyH.cons rfl (fun K hK => ?_) AllReadyH.nil
    try simp only [List.getElem_toArray, List.getElem_cons_succ, List.getElem_cons_zero]
    go_simp
    go_at_call 32
    refine (HN0.out _ HX.out).mono ?_
    rintro e w7 ⟨rfl, hw7⟩
    rw [← hw7] at HX
    clear hw7
    go_wp2_with fail
    refine hK.out _ _ ?_ (fun hHeld => ?_)
    · exact HSC.out _ HX.out
    clear hK K
    try simp only [List.getElem_toArray, List.getElem_cons_succ, List.getElem_cons_zero, Act.put, List.setIfInBounds_toArray, List.set_cons_zero, List.set_cons_succ]
    refine wpAnyH_ready (rs := [6]) (by kernel_rfl) (by simp) ?_
    refine AllReadyH.cons rfl (fun K hK => ?_) AllReadyH.nil
    try simp only [List.getElem_toArray, List.getElem_cons_succ, List.getElem_cons_zero]
    go_simp
    go_at_call 32
    refine (HN1.out _ HX.out).mono ?_
    rintro e w7 ⟨rfl, hw7⟩
    rw [← hw7] at HX
    clear hw7
    go_wp2_with fail
    refine hK.out _ _ ?_ (fun hHeld => ?_)
    · exact HSC.out _ HX.out
    clear hK K
    try simp only [List.getElem_toArray, List.getElem_cons_succ, List.getElem_cons_zero, Act.put, List.setIfInBounds_toArray, List.set_cons_zero, List.set_cons_succ]
    refine wpAnyH_ready (rs := [9]) (by kernel_rfl) (by simp) ?_
    refine AllReadyH.cons rfl (fun K hK => ?_) AllReadyH.nil
    try simp only [List.getElem_toArray, List.getElem_cons_succ, List.getElem_cons_zero]
    go_simp
    go_at_call 32
    refine (HN2.out _ HX.out).mono ?_
    rintro e w7 ⟨rfl, hw7⟩
    rw [← hw7] at HX
    clear hw7
    go_wp2_with fail
    refine hK.out _ _ ?_ (fun hHeld => ?_)
    · exact HSC.out _ HX.out
    clear hK K
    try simp only [List.getElem_toArray, List.getElem_cons_succ, List.getElem_cons_zero, Act.put, List.setIfInBounds_toArray, List.set_cons_zero, List.set_cons_succ]
    refine wpAnyH_ready (rs := [12]) (by kernel_rfl) (by simp) ?_
    refine AllReadyH.cons rfl (fun K hK => ?_) AllReadyH.nil
    try simp only [List.getElem_toArray, List.getElem_cons_succ, List.getElem_cons_zero]
    go_simp
    go_at_call 32
    refine (HN3.out _ HX.out).mono ?_
    rintro e w7 ⟨rfl, hw7⟩
    rw [← hw7] at HX
    clear hw7
    go_wp2_with fail
    refine hK.out _ _ ?_ (fun hHeld => ?_)
    · exact HSC.out _ HX.out
    clear hK K
    try simp only [List.getElem_toArray, List.getElem_cons_succ, List.getElem_cons_zero, Act.put, List.setIfInBounds_toArray, List.set_cons_zero, List.set_cons_succ]
    refine wpAnyH_ready (rs := [13]) (by kernel_rfl) (by simp) ?_
    refine AllReadyH.cons rfl (fun K hK => ?_) AllReadyH.nil
    try simp only [List.getElem_toArray, List.getElem_cons_succ, List.getElem_cons_zero]
    go_simp
    go_at_call 28
    refine (HQ.out _ (HB0.out.trans (HX.out.mono HB0.out.size))).mono ?_
    rintro e w8 ⟨rfl, hp, hfr⟩
    have HP := Lib.hid hp
    have HC8 : Hid (w8.cell? ⟨w.heap.size, 1, none⟩ = some (.slice s1 s2 s3)) := Lib.hid ((World.cell?_of_block (hfr w.heap.size (Nat.le_refl _) (Nat.lt_of_lt_of_le (Array.getElem?_eq_some_iff.1 HKD.out).1 HX.out.size))).trans (HSC.out _ HX.out))
    clear hp hfr
    go_wp2_with fail
    refine hK.out _ _ ?_ (fun hHeld => ?_)
    · exact HC8.out
    clear hK K
    try simp only [List.getElem_toArray, List.getElem_cons_succ, List.getElem_cons_zero, Act.put, List.setIfInBounds_toArray, List.set_cons_zero, List.set_cons_succ]
    refine wpAnyH_done (by kernel_rfl) ?_ _
    go_wp2_with fail
    go_ret
    exact ⟨ret_bool HF3.out.symm, HP.out⟩
  have d1 : (dk == 1) = false := beq_eq_false_iff_ne.2 c1
  by_cases c2 : dk = 2
  · subst c2
    have e21 : ((2 : Int) == 1) = false := rfl
    have e22 : ((2 : Int) == 2) = true := rfl
    have hQ := HT.out.opn HEK.out W0 HB0.out
    skip
    try simp only [ncell, pv] at hQ
    have HQ := Lib.hid hQ
    clear hQ
    have HF3 : Hid (RR = false) := Lib.hid (by rw [← HRR.out]; exact bStep_false (by rw [HEK.out]; omega))
    go_wp2_with fail
    refine HQ.out.mono ?_
    rintro e wq ⟨rfl, hp⟩
    have HP := Lib.hid hp
    clear hp HQ m0 m1 m2 m3 m4 m5 m6 m7 m8 m9 m10 m11 m12 m13 m14
    go_wp2_with fail
    go_ret
    exact ⟨ret_bool HF3.out.symm, HP.out⟩
  have d2 : (dk == 2) = false := beq_eq_false_iff_ne.2 c2
  by_cases c3 : dk = 3
  · subst c3
    have e31 : ((3 : Int) == 1) = false := rfl
    have e32 : ((3 : Int) == 2) = false := rfl
    have e33 : ((3 : Int) == 3) = true := rfl
    have hQ := HT.out.close HEK.out W0 HB0.out
    rw [HEN.out, HRR.out] at hQ
    have HQ := Lib.hid hQ
    clear hQ
    go_wp2_with fail
    refine HQ.out.mono ?_
    rintro e wq ⟨rfl, hp⟩
    have HP := Lib.hid hp
    clear hp HQ m0 m1 m2 m3 m4 m5 m6 m7 m8 m9 m10 m11 m12 m13 m14
    go_wp2_with fail
    go_ret
    exact ⟨rfl, HP.out⟩
  have d3 : (dk == 3) = false := beq_eq_false_iff_ne.2 c3
  by_cases c4 : dk = 4
  · subst c4
    have e41 : ((4 : Int) == 1) = false := rfl
    have e42 : ((4 : Int) == 2) = false := rfl
    have e43 : ((4 : Int) == 3) = false := rfl
    have e44 : ((4 : Int) == 4) = true := rfl
    have hQ := HT.out.shut HEK.out W0 HB0.out
    skip
    try simp only [ncell, pv] at hQ
    have HQ := Lib.hid hQ
    clear hQ
    have HF3 : Hid (RR = false) := Lib.hid (by rw [← HRR.out]; exact bStep_false (by rw [HEK.out]; omega))
    go_wp2_with fail
    refine HQ.out.mono ?_
    rintro e wq ⟨rfl, hp⟩
    have HP := Lib.hid hp
    clear hp HQ m0 m1 m2 m3 m4 m5 m6 m7 m8 m9 m10 m11 m12 m13 m14
    go_wp2_with fail
    go_ret
    exact ⟨ret_bool HF3.out.symm, HP.out⟩
  have d4 : (dk == 4) = false := beq_eq_false_iff_ne.2 c4
  by_cases c5 : dk = 5
  · subst c5
    have e51 : ((5 : Int) == 1) = false := rfl
    have e52 : ((5 : Int) == 2) = false := rfl
    have e53 : ((5 : Int) == 3) = false := rfl
    have e54 : ((5 : Int) == 4) = false := rfl
    have e55 : ((5 : Int) == 5) = true := rfl
    have hQ := HT.out.text HEK.out W0 HB0.out
    rw [HEN.out] at hQ
    try simp only [ncell, pv] at hQ
    have HQ := Lib.hid hQ
    clear hQ
    have HF3 : Hid (RR = false) := Lib.hid (by rw [← HRR.out]; exact bStep_false (by rw [HEK.out]; omega))
    go_wp2_with fail
    refine HQ.out.mono ?_
    rintro e wq ⟨rfl, hp⟩
    have HP := Lib.hid hp
    clear hp HQ m0 m1 m2 m3 m4 m5 m6 m7 m8 m9 m10 m11 m12 m13 m14
    go_wp2_with fail
    go_ret
    exact ⟨ret_bool HF3.out.symm, HP.out⟩
  have d5 : (dk == 5) = false := beq_eq_false_iff_ne.2 c5
  by_cases c6 : dk = 6
  · subst c6
    have e61 : ((6 : Int) == 1) = false := rfl
    have e62 : ((6 : Int) == 2) = false := rfl
    have e63 : ((6 : Int) == 3) = false := rfl
    have e64 : ((6 : Int) == 4) = false := rfl
    have e65 : ((6 : Int) == 5) = false := rfl
    have e66 : ((6 : Int) == 6) = true := rfl
    have hQ := HT.out.nd HEK.out W0 HB0.out
    skip
    try simp only [ncell, pv] at hQ
    have HQ := Lib.hid hQ
    clear hQ
    have HF3 : Hid (RR = false) := Lib.hid (by rw [← HRR.out]; exact bStep_false (by rw [HEK.out]; omega))
    go_wp2_with fail
    refine HQ.out.mono ?_
    rintro e wq ⟨rfl, hp⟩
    have HP := Lib.hid hp
    clear hp HQ m0 m1 m2 m3 m4 m5 m6 m7 m8 m9 m10 m11 m12 m13 m14
    go_wp2_with fail
    go_ret
    exact ⟨ret_bool HF3.out.symm, HP.out⟩
  have d6 : (dk == 6) = false := beq_eq_false_iff_ne.2 c6
  have hQ := HT.out.add (by rw [HEK.out]; exact c1) (by rw [HEK.out]; exact c2) (by rw [HEK.out]; exact c3) (by rw [HEK.out]; exact c4) (by rw [HEK.out]; exact c5) (by rw [HEK.out]; exact c6) W0 HB0.out
  skip
  try simp only [ncell, pv] at hQ
  have HQ := Lib.hid hQ
  clear hQ
  have HF3 : Hid (RR = false) := Lib.hid (by rw [← HRR.out]; exact bStep_false (by rw [HEK.out]; exact c3))
  go_wp2_with fail
  refine HQ.out.mono ?_
  rintro e wq ⟨rfl, hp⟩
  have HP := Lib.hid hp
  clear hp HQ m0 m1 m2 m3 m4 m5 m6 m7 m8 m9 m10 m11 m12 m13 m14
  go_wp2_with fail
  go_ret
  exact ⟨ret_bool HF3.out.symm, HP.out⟩
end Go.Proofs.YtpccjgoeoeehoaaDoor
namespace Go.Proofs.YtpccjgoeoeehoaaDoor
open Go.RowKit
/-- All blocks that were there stand, but those of X. -/
structure Exq (X : Nat → Prop) (w w' : World) : Prop where
  os : w'.os = w.os
  tape : w'.tape = w.tape
  output : w'.output = w.output
  size : w.heap.size ≤ w'.heap.size
  block : ∀ k, k < w.heap.size → ¬ X k → w'.heap[k]? = w.heap[k]?
theorem Exq.below {X : Nat → Prop} {w w' : World} {D : Nat} (h : Exq X w w') (hD : D ≤ w.heap.size) (hX : ∀ b, X b → D ≤ b) : Below D w w' :=
  ⟨h.os, h.tape, h.output, h.size, fun k hk => h.block k (Nat.lt_of_lt_of_le hk hD) (fun q => by have := hX k q; omega)⟩
theorem Exq.pre {X : Nat → Prop} {w W w' : World} (hb : Below w.heap.size w W) (h : Exq X W w') : Exq X w w' :=
  ⟨h.os.trans hb.os, h.tape.trans hb.tape, h.output.trans hb.output, Nat.le_trans hb.size h.size, fun k hk hx => (h.block k (Nat.lt_of_lt_of_le hk hb.size) hx).trans (hb.block k hk)⟩
/-- A builder that was told nothing. -/
def bt0 : Bt := ⟨⟨[], [], [], []⟩, [], [], [], 0, false⟩
abbrev BIT := (Nat → Prop) → (Nat → Prop) → World → Nat → Bt → Prop
/-- What there is behind a call: X writable, R read, S what came in. -/
def Aft (BI : BIT) (X R S : Nat → Prop) (w : World) (b : Nat) (t' : Bt) (w' : World) : Prop :=
  ∃ X' R', BI X' R' w' b t' ∧ Exq X w w' ∧ (∀ k, X' k → X k ∨ w.heap.size ≤ k) ∧ (∀ k, R' k → R k ∨ S k ∨ X k ∨ w.heap.size ≤ k)
abbrev ptrV (b : Nat) : Value := .pointer (some ⟨b, 0, none⟩)
structure Impl (BI : BIT) (TB : World → Prop) : Prop where
  lt : ∀ {X R w b t}, BI X R w b t → ∀ k, X k ∨ R k → k < w.heap.size
  keep : ∀ {X R w w' b t}, BI X R w b t → Kp X w w' → Kp R w w' → w.heap.size ≤ w'.heap.size → BI X R w' b t
  new : ∀ w, Calls Tryd.prog 10 #[] w fun e w' => ∃ b X, e = .returned (ptrV b) ∧ BI X (fun _ => False) w' b bt0 ∧ Below w.heap.size w w' ∧ ∀ k, X k → w.heap.size ≤ k
  title : ∀ {X R w b t} (n0 n1 n2 n3 : List UInt8), BI X R w b t → TB w → Calls Tryd.prog 28 #[ptrV b, .string ⟨n0.toArray⟩, .string ⟨n1.toArray⟩, .string ⟨n2.toArray⟩, .string ⟨n3.toArray⟩] w fun e w' => e = .returned (.tuple #[]) ∧ Aft BI X R (fun _ => False) w b { t with nm := ⟨n0, n1, n2, n3⟩ } w'
  opn : ∀ {X R S w b t nv y}, BI X R w b t → TB w → NdIs S w nv y → (∀ k, S k → k < w.heap.size ∧ ¬ X k) → btl t + nlN y ≤ 30000 → Calls Tryd.prog 30 #[ptrV b, .agg (ncell nv).toArray] w fun e w' => e = .returned (.tuple #[]) ∧ Aft BI X R S w b (bOpen t y) w'
  add : ∀ {X R S w b t nv y}, BI X R w b t → TB w → NdIs S w nv y → (∀ k, S k → k < w.heap.size ∧ ¬ X k) → btl t + nlN y ≤ 30000 → Calls Tryd.prog 20 #[ptrV b, .agg (ncell nv).toArray] w fun e w' => e = .returned (.tuple #[]) ∧ Aft BI X R S w b (bAdd t y) w'
  close : ∀ {X R w b t} (k : Int), BI X R w b t → TB w → btl t ≤ 30000 → Calls Tryd.prog 27 #[ptrV b, .int .i64 k] w fun e w' => e = .returned (.bool (bClose t k).2) ∧ Aft BI X R (fun _ => False) w b (bClose t k).1 w'
  shut : ∀ {X R S w b t v} (K : List Int), BI X R w b t → TB w → FsS S 1 icell w v K → (∀ k, S k → k < w.heap.size ∧ ¬ X k) → K.length ≤ 30000 → btl t ≤ 30000 → Calls Tryd.prog 23 #[ptrV b, v] w fun e w' => e = .returned (.tuple #[]) ∧ Aft BI X R S w b (bShut t K) w'
  text : ∀ {X R S w b t v} (g : List Gly) (i : Int), BI X R w b t → TB w → FsS S 2 gcell w v g → (∀ k, S k → k < w.heap.size ∧ ¬ X k) → btl t + g.length ≤ 30000 → Calls Tryd.prog 24 #[ptrV b, v, .int .i64 i] w fun e w' => e = .returned (.tuple #[]) ∧ Aft BI X R S w b (bText t g i) w'
  nd : ∀ {X R w b t}, BI X R w b t → TB w → btl t ≤ 30000 → Calls Tryd.prog 22 #[ptrV b] w fun e w' => e = .returned (.tuple #[]) ∧ Aft BI X R (fun _ => False) w b (bEnd t) w'
  depth : ∀ {X R w b t}, BI X R w b t → TB w → Calls Tryd.prog 13 #[ptrV b] w fun e w' => e = .returned (.int .i64 (t.opn.length : Int)) ∧ Below w.heap.size w w'
  inside : ∀ {X R w b t} (k : Int), BI X R w b t → TB w → btl t ≤ 30000 → Calls Tryd.prog 14 #[ptrV b, .int .i64 k] w fun e w' => e = .returned (.bool (bIn t k)) ∧ Below w.heap.size w w'
  doc : ∀ {X R w b t}, BI X R w b t → TB w → btl t ≤ 30000 → Calls Tryd.prog 17 #[ptrV b] w fun e w' => ∃ s : PV, e = .returned (docV t.nm (pv s)) ∧ NsS (fun k => w.heap.size ≤ k ∧ k < w'.heap.size) w' (pv s) (bDoc t) ∧ Below w.heap.size w w'
  tb : ∀ {w w'}, TB w → Below w.heap.size w w' → TB w'
theorem Aft.pre {BI : BIT} {X R S S' : Nat → Prop} {w W w' : World} {b : Nat} {t' : Bt} (hb : Below w.heap.size w W) (hS : ∀ k, S k → S' k) (h : Aft BI X R S W b t' w') : Aft BI X R S' w b t' w' := by
  obtain ⟨X', R', h1, h2, h3, h4⟩ := h
  exact ⟨X', R', h1, h2.pre hb, fun k q => (h3 k q).imp id (fun z => Nat.le_trans hb.size z), fun k q => (h4 k q).imp id (fun z => z.imp (hS k) (fun z => z.imp id (fun z => Nat.le_trans hb.size z)))⟩
/-- Told by what a builder's functions do. -/
theorem Impl.told {BI : BIT} {TB : World → Prop} (I : Impl BI TB) {X R S : Nat → Prop} {w : World} {b : Nat} {t : Bt} {dv : DV} {d : Dd} (h : BI X R w b t) (hT : TB w) (hd : DdIs S w dv d) (hS : ∀ k, S k → k < w.heap.size ∧ ¬ X k) (hb : btl t + ddl d ≤ 30000) :
    Told (Aft BI X R S w b) (ptrV b) t dv d w := by
  have K : ∀ W, Below w.heap.size w W → BI X R W b t := fun W q => I.keep h (Kp.below q (fun k z => I.lt h k (.inl z))) (Kp.below q (fun k z => I.lt h k (.inr z))) q.size
  have D : ∀ W, Below w.heap.size w W → DdIs S W dv d := fun W q => hd.keep (Kp.below q (fun k z => (hS k z).1))
  have SS : ∀ W, Below w.heap.size w W → ∀ k, S k → k < W.heap.size ∧ ¬ X k := fun W q k z => ⟨Nat.lt_of_lt_of_le (hS k z).1 q.size, (hS k z).2⟩
  have hdd : ddl d = 2 + d.g.length + d.l.length + nlN d.x := rfl
  have F : ∀ k : Nat, (fun _ : Nat => False) k → S k := fun _ q => q.elim
  refine ⟨fun e W q => ?_, fun e W q => ?_, fun e W q => ?_, fun e W q => ?_, fun e W q => ?_, fun e W q => ?_, fun e1 e2 e3 e4 e5 e6 W q => ?_⟩
  · have hs : (bStep t d).1 = { t with nm := ⟨nameAt d.s 0, nameAt d.s 1, nameAt d.s 2, nameAt d.s 3⟩ } := by unfold bStep; rw [if_pos e]
    rw [hs]
    refine (I.title _ _ _ _ (K W q) (I.tb hT q)).mono fun e w' ⟨h1, h2⟩ => ⟨h1, h2.pre q F, fun k hk1 hk2 => ?_⟩
    obtain ⟨X', R', -, h4, -, -⟩ := h2
    exact h4.block k hk2 (fun z => by have := I.lt h k (.inl z); omega)
  · have hs : (bStep t d).1 = bOpen t d.x := by unfold bStep; rw [if_neg (by omega), if_pos e]
    rw [hs]
    exact (I.opn (K W q) (I.tb hT q) (D W q).x (SS W q) (by omega)).mono fun e w' ⟨h1, h2⟩ => ⟨h1, h2.pre q (fun _ z => z)⟩
  · have hs : bStep t d = bClose t d.n := by unfold bStep; rw [if_neg (by omega), if_neg (by omega), if_pos e]
    rw [hs]
    exact (I.close _ (K W q) (I.tb hT q) (by omega)).mono fun e w' ⟨h1, h2⟩ => ⟨h1, h2.pre q F⟩
  · have hs : (bStep t d).1 = bShut t d.l := by unfold bStep; rw [if_neg (by omega), if_neg (by omega), if_neg (by omega), if_pos e]
    rw [hs]
    exact (I.shut d.l (K W q) (I.tb hT q) (D W q).l (SS W q) (by omega) (by omega)).mono fun e w' ⟨h1, h2⟩ => ⟨h1, h2.pre q (fun _ z => z)⟩
  · have hs : (bStep t d).1 = bText t d.g d.n := by unfold bStep; rw [if_neg (by omega), if_neg (by omega), if_neg (by omega), if_neg (by omega), if_pos e]
    rw [hs]
    exact (I.text d.g d.n (K W q) (I.tb hT q) (D W q).g (SS W q) (by omega)).mono fun e w' ⟨h1, h2⟩ => ⟨h1, h2.pre q (fun _ z => z)⟩
  · have hs : (bStep t d).1 = bEnd t := by unfold bStep; rw [if_neg (by omega), if_neg (by omega), if_neg (by omega), if_neg (by omega), if_neg (by omega), if_pos e]
    rw [hs]
    exact (I.nd (K W q) (I.tb hT q) (by omega)).mono fun e w' ⟨h1, h2⟩ => ⟨h1, h2.pre q F⟩
  · have hs : (bStep t d).1 = bAdd t d.x := by unfold bStep; rw [if_neg e1, if_neg e2, if_neg e3, if_neg e4, if_neg e5, if_neg e6]
    rw [hs]
    exact (I.add (K W q) (I.tb hT q) (D W q).x (SS W q) (by omega)).mono fun e w' ⟨h1, h2⟩ => ⟨h1, h2.pre q (fun _ z => z)⟩
theorem btl_step (t : Bt) (d : Dd) : btl (bStep t d).1 ≤ btl t + ddl d + 3 := by
  have hdd : ddl d = 2 + d.g.length + d.l.length + nlN d.x := rfl
  have h1 := btl_open t d.x
  have h2 := btl_close t d.n
  have h3 := btl_shut t d.l
  have h4 := btl_text t d.g d.n
  have h5 := btl_end t
  have h6 := btl_add t d.x
  have h7 : btl { t with nm := ⟨nameAt d.s 0, nameAt d.s 1, nameAt d.s 2, nameAt d.s 3⟩ } = btl t := rfl
  unfold bStep
  repeat' split
  all_goals first | omega | (simp only; omega)
end Go.Proofs.YtpccjgoeoeehoaaDoor
namespace Go.Proofs.YtpccjgoeoeehoaaDoor
open Go.RowKit
section
variable {α : Type} {e n : Nat} {f : α → List Value} {base : Nat} {W W' : World} {x : Value} {l : List α}
theorem FOwn.kp (h : FOwn e n f base W x l) (k : ∀ b, x.ownBlock = some b → W'.heap[b]? = W.heap[b]?) : FOwn e n f base W' x l := by
  refine ⟨h.1, ?_⟩
  rcases h.2 with h0 | ⟨g, cap, cur, rfl, hg, hh, r⟩
  · exact .inl h0
  · exact .inr ⟨g, cap, cur, rfl, hg, (k g rfl).trans hh, r⟩
theorem FOwn.z (h : FOwn e n f base W x l) : FOwn e n f 0 W x l := h.mono (Nat.zero_le _)
theorem own_blk (hf : ∀ x, (f x).length = n) (h : FOwn e n f base W x l) : FsS (fun b => x.ownBlock = some b) n f W x l := by
  refine ⟨FOwn.sl hf h, fun a k c e1 hk => ?_⟩
  subst e1
  rcases h.2 with ⟨hn, -⟩ | ⟨g, cap, cur, hx, hb, hgg, -⟩
  · injection hn with e1 e2 e3
    cases e1
  · injection hx with e1 e2 e3
    injection e1 with e1
    subst e1
    exact ⟨rfl, fun _ i _ => by simp [World.frozen?, hgg]⟩
theorem FOwn.ltb (h : FOwn e n f base W x l) {g : Nat} (hg : x.ownBlock = some g) : g < W.heap.size := by
  obtain ⟨-, cur, hc⟩ := h.ty hg
  exact (Array.getElem?_eq_some_iff.1 hc).1
/-- Where a row of one's own lies. -/
theorem FOwn.place (hf : ∀ x, (f x).length = n) (h : FOwn e n f base W x l) (hl : 0 < l.length) : ∃ g c, x = .slice (some ⟨g, 0, none⟩) l.length c ∧ l.length ≤ c ∧ base ≤ g ∧ ∃ cur, W.heap[g]? = some (.cells cur e (0, 0)) ∧ cur.size = c * n := by
  rcases h.2 with ⟨-, h0⟩ | ⟨g, cap, cur, rfl, hb, hh, h1, -, hs, -⟩
  · omega
  · exact ⟨g, cap, rfl, h1, hb, cur, hh, hs⟩
theorem FOwn.slotA (hf : ∀ x, (f x).length = n) {g c N : Nat} (h : FOwn e n f base W (.slice (some ⟨g, 0, none⟩) N c) l) {j : Nat} {s : α} (hs : l[j]? = some s) {i : Nat} {u : Value} (hu : (f s)[i]? = some u) :
    W.cell? ⟨g, j * n + i, none⟩ = some u ∧ W.frozen? ⟨g, j * n + i, none⟩ = false := by
  have hx := flatV_at hf l j i s u hs hu
  obtain ⟨a, c', e2⟩ := (FOwn.sl hf h).len
  injection e2 with e3 e4 e5
  have h' : W.ownsRow base e n (.slice (some ⟨g, 0, none⟩) N c) l.length (flatV f l) := h
  rw [e4] at h'
  refine ⟨?_, h'.frozenAt _⟩
  have := World.ownsRow.cells (g := g) h' rfl (j * n + i) u hx
  rw [Addr.add_lit] at this
  rw [Nat.zero_add] at this
  exact this
/-- Cells stored one behind the other. -/
def setV : List Value → Nat → List Value → List Value
  | xs, _, [] => xs
  | xs, o, v :: r => setV (xs.set o v) (o + 1) r
theorem setV_mid : ∀ (vs u A B : List Value), u.length = vs.length → setV (A ++ u ++ B) A.length vs = A ++ vs ++ B
  | [], u, A, B, h => by
    obtain rfl : u = [] := List.eq_nil_of_length_eq_zero h
    rfl
  | v :: vs, [], A, B, h => by simp at h
  | v :: vs, c :: u, A, B, h => by
    have ih := setV_mid vs u (A ++ [v]) B (by simpa using h)
    have e1 : (A ++ c :: u ++ B).set A.length v = (A ++ [v]) ++ u ++ B := by simp
    show setV ((A ++ c :: u ++ B).set A.length v) (A.length + 1) vs = _
    rw [e1]
    have e2 : (A ++ [v]).length = A.length + 1 := by simp
    rw [e2] at ih
    rw [ih]
    simp
theorem own_setCells {g N c : Nat} : ∀ (vs : List Value) (o : Nat) (xs : List Value) (W : World), W.ownsRow base e n (.slice (some ⟨g, 0, none⟩) N c) N xs → (W.setCells g o vs).ownsRow base e n (.slice (some ⟨g, 0, none⟩) N c) N (setV xs o vs)
  | [], _, _, _, h => h
  | v :: vs, o, xs, W, h => own_setCells vs (o + 1) (xs.set o v) _ (h.stored o v).1
theorem split_at {l : List α} {j : Nat} {s : α} (hs : l[j]? = some s) : l = l.take j ++ [s] ++ l.drop (j + 1) := by
  obtain ⟨hj, rfl⟩ := List.getElem?_eq_some_iff.1 hs
  simp
theorem FOwn.putA (hf : ∀ x, (f x).length = n) {g c N : Nat} (h : FOwn e n f base W (.slice (some ⟨g, 0, none⟩) N c) l) {j : Nat} (hj : j < l.length) (s : α) :
    FOwn e n f base (W.setCells g (j * n) (f s)) (.slice (some ⟨g, 0, none⟩) N c) (l.set j s) := by
  obtain ⟨a, c', e2⟩ := (FOwn.sl hf h).len
  injection e2 with e3 e4 e5
  have h' : W.ownsRow base e n (.slice (some ⟨g, 0, none⟩) N c) l.length (flatV f l) := h
  rw [← e4] at h'
  have k := own_setCells (f s) (j * n) (flatV f l) W h'
  obtain ⟨y, hy⟩ : ∃ y, l[j]? = some y := ⟨l[j], List.getElem?_eq_getElem hj⟩
  have e6 := split_at hy
  have e7 : l.set j s = l.take j ++ [s] ++ l.drop (j + 1) := by
    rw [List.set_eq_take_append_cons_drop]
    simp [hj]
  have e8 : (flatV f (l.take j)).length = j * n := by rw [flatV_len hf, List.length_take, Nat.min_eq_left (Nat.le_of_lt hj)]
  have e9 : setV (flatV f l) (j * n) (f s) = flatV f (l.set j s) := by
    rw [e7, flatV_app, flatV_app, flatV_one]
    conv => lhs; rw [e6, flatV_app, flatV_app, flatV_one, ← e8]
    exact setV_mid (f s) (f y) _ _ (by rw [hf, hf])
  unfold FOwn
  rw [List.length_set, e4, ← e9] at *
  exact k
/-- 'v[:k]' of a row of one's own is one. -/
theorem FOwn.cut (hf : ∀ x, (f x).length = n) {a : Option Addr} {N c : Nat} (h : FOwn e n f base W (.slice a N c) l) {k : Nat} (hk : k ≤ l.length) : FOwn e n f base W (.slice a k c) (l.take k) := by
  have hl : (l.take k).length = k := by rw [List.length_take]; omega
  refine ⟨flatV_len hf _, ?_⟩
  rcases h.2 with ⟨h1, h0⟩ | ⟨g, cap, cur, h1, hg, hh, hn, hm, hs, ht⟩
  · injection h1 with e1 e2 e3
    subst e1 e3
    have : k = 0 := by omega
    subst this
    exact .inl ⟨rfl, by simp⟩
  · injection h1 with e1 e2 e3
    subst e1 e3
    refine .inr ⟨g, c, cur, by rw [hl], hg, hh, by omega, hm, hs, ?_⟩
    rw [hl]
    have e4 : flatV f (l.take k) = (flatV f l).take (k * n) := by
      have h2 : flatV f l = flatV f (l.take k) ++ flatV f (l.drop k) := by rw [← flatV_app, List.take_append_drop]
      have h3 : (flatV f (l.take k)).length = k * n := by rw [flatV_len hf, hl]
      rw [h2, ← h3, List.take_left]
    rw [e4, ← ht, List.take_take, Nat.min_eq_left (Nat.mul_le_mul_right _ hk)]
/-- Cells of the row's block that lie behind it. -/
theorem FOwn.behind (hf : ∀ x, (f x).length = n) {g c k : Nat} {v : Value} (h : FOwn e n f base W (.slice (some ⟨g, 0, none⟩) k c) l) {q : Nat} (hq : l.length * n ≤ q) : FOwn e n f base (W.setCell ⟨g, q, none⟩ v) (.slice (some ⟨g, 0, none⟩) k c) l := by
  obtain ⟨a, c', e2⟩ := (FOwn.sl hf h).len
  injection e2 with e3 e4 e5
  have h' : W.ownsRow base e n (.slice (some ⟨g, 0, none⟩) k c) l.length (flatV f l) := h
  rw [← e4] at h'
  have k1 := (h'.stored q v).1
  rw [List.set_eq_of_length_le (by rw [flatV_len hf]; exact hq)] at k1
  unfold FOwn
  rw [← e4]
  exact k1
end
theorem below_setC {B : Nat} {a : World} {b : Nat} (hb : B ≤ b) : ∀ (vs : List Value) (o : Nat) (w : World), Below B a w → Below B a (w.setCells b o vs)
  | [], _, _, h => h
  | v :: r, o, w, h => below_setC hb r (o + 1) _ (h.setCell hb _)
theorem exc_setC {X : Nat → Prop} {a : World} {g : Nat} (hg : g < a.heap.size → X g) : ∀ (vs : List Value) (o : Nat) (w : World), Exc X a w → Exc X a (w.setCells g o vs)
  | [], _, _, h => h
  | v :: r, o, w, h => exc_setC hg r (o + 1) _ (h.set o v hg)
theorem sz_setC {g : Nat} : ∀ (vs : List Value) (o : Nat) (w : World), (w.setCells g o vs).heap.size = w.heap.size
  | [], _, _ => rfl
  | v :: r, o, w => (sz_setC r (o + 1) _).trans (szset _ _ _)
theorem heap_setC {g k : Nat} (hk : k ≠ g) : ∀ (vs : List Value) (o : Nat) (w : World), (w.setCells g o vs).heap[k]? = w.heap[k]?
  | [], _, _ => rfl
  | v :: r, o, w => (heap_setC hk r (o + 1) _).trans (Below.heap_setCell w ⟨g, o, none⟩ v k hk)
/-- A row of nodes as it lies: one's own, in a block of O; or to be read alone, with no room behind it. -/
def RwV (R O : Nat → Prop) (w : World) (v : Value) (L : List NV) : Prop :=
  (FOwn 40 10 ncell 0 w v L ∧ ∀ k, v.ownBlock = some k → O k) ∨ (FsS R 10 ncell w v L ∧ ∃ a, v = .slice a L.length L.length)
def RwN (R O : Nat → Prop) (w : World) (v : Value) (l : List Nd) : Prop :=
  ∃ L : List NV, RwV R O w v L ∧ L.length = l.length ∧ ∀ (i : Nat) x y, L[i]? = some x → l[i]? = some y → HdIs R w x y.hd ∧ NsS R w (pv x.kids) y.kids
section
variable {R R' O O' : Nat → Prop} {w w' : World} {v : Value} {L : List NV} {l : List Nd}
theorem RwV.keep (h : RwV R O w v L) (hR : Kp R w w') (hO : Kp O w w') : RwV R O w' v L :=
  h.imp (fun q => ⟨q.1.kp (fun b e => hO b (q.2 b e)), q.2⟩) (fun q => ⟨q.1.keep hR, q.2⟩)
theorem RwV.mono (h : RwV R O w v L) (hR : ∀ k, R k → R' k) (hO : ∀ k, O k → O' k) : RwV R' O' w v L :=
  h.imp (fun q => ⟨q.1, fun k e => hO k (q.2 k e)⟩) (fun q => ⟨q.1.mono hR, q.2⟩)
theorem RwV.fs (h : RwV R O w v L) : FsS (fun k => R k ∨ O k) 10 ncell w v L :=
  h.elim (fun q => (own_blk ncell_len q.1).mono (fun k e => .inr (q.2 k e))) (fun q => q.1.mono (fun k => .inl))
theorem RwV.len (h : RwV R O w v L) : ∃ a c, v = .slice a L.length c ∧ L.length ≤ c := by
  obtain ⟨⟨a, c, e, hc, -⟩, -⟩ := h.fs
  exact ⟨a, c, e, hc⟩
theorem RwN.keep (h : RwN R O w v l) (hR : Kp R w w') (hO : Kp O w w') : RwN R O w' v l := by
  obtain ⟨L, h1, h2, h3⟩ := h
  exact ⟨L, h1.keep hR hO, h2, fun i x y a b => ⟨(h3 i x y a b).1.keep hR, (h3 i x y a b).2.keep hR⟩⟩
theorem RwN.mono (h : RwN R O w v l) (hR : ∀ k, R k → R' k) (hO : ∀ k, O k → O' k) : RwN R' O' w v l := by
  obtain ⟨L, h1, h2, h3⟩ := h
  exact ⟨L, h1.mono hR hO, h2, fun i x y a b => ⟨(h3 i x y a b).1.mono hR, (h3 i x y a b).2.mono hR⟩⟩
theorem RwN.nil (R O : Nat → Prop) (w : World) : RwN R O w (.slice none 0 0) [] := ⟨[], .inl ⟨FOwn.nil _ _, fun k e => by cases e⟩, rfl, fun i x y h => by simp at h⟩
theorem RwN.len (h : RwN R O w v l) : ∃ a c, v = .slice a l.length c ∧ l.length ≤ c := by
  obtain ⟨L, h1, h2, -⟩ := h
  obtain ⟨a, c, e, hc⟩ := h1.len
  exact ⟨a, c, h2 ▸ e, h2 ▸ hc⟩
theorem RwN.nss (h : RwN R O w v l) : NsS (fun k => R k ∨ O k) w v l := by
  obtain ⟨L, h1, h2, h3⟩ := h
  exact .mk _ _ L h2 h1.fs (fun i x y a b => (h3 i x y a b).1.mono (fun k => .inl)) (fun i x y a b => (h3 i x y a b).2.mono (fun k => .inl))
/-- Nodes that were made are a row of one's own. -/
theorem NInv.rwn {base : Nat} (h : NInv (fun _ => False) base w v l) (hO : ∀ k, v.ownBlock = some k → O k) (hR : ∀ k, base ≤ k → k < w.heap.size → v.ownBlock ≠ some k → R k) : RwN R O w v l := by
  obtain ⟨L, S, h1, h2, h3, h4⟩ := h.own
  have m : ∀ b, S b → R b := fun b q => (h3 b q).elim (fun z => z.elim) (fun z => hR b z.1 z.2.1 z.2.2)
  exact ⟨L, .inl ⟨h1.z, hO⟩, h2, fun i x y a b => ⟨(h4 i x y a b).1.mono m, (h4 i x y a b).2.mono m⟩⟩
/-- Read alone. -/
theorem RwN.clip (h : RwN R O w v l) : ∃ a c, v = .slice a l.length c ∧ RwN (fun k => R k ∨ O k) O' w (.slice a l.length l.length) l := by
  obtain ⟨L, h1, h2, h3⟩ := h
  have hf := h1.fs
  obtain ⟨a, c, rfl, hc⟩ := h1.len
  refine ⟨a, c, by rw [h2], L, .inr ⟨⟨?_, fun a' k c' e hk => ?_⟩, a, by rw [h2]⟩, h2, fun i x y p q => ⟨(h3 i x y p q).1.mono (fun k => .inl), (h3 i x y p q).2.mono (fun k => .inl)⟩⟩
  · obtain ⟨⟨a2, c2, e2, hc2, hr⟩, -⟩ := hf
    injection e2 with e3 e4 e5
    subst e3
    exact ⟨a, _, by rw [h2], Nat.le_of_eq h2, hr⟩
  · injection e with e1 e2 e3
    subst e1 e2
    exact hf.2 a' _ c (by rw [h2]) hk
/-- The append of a node to it. -/
theorem RwV.app1 (h : RwV R O w v L) (hl : L.length ≤ 400000) {u : Value} {z : NV} {c0 : Nat} {ad : Addr} (hu : u = .slice (some ad) 1 c0) (hf : Fs 10 ncell w u [z]) :
    ∃ g c w', (Builtin.append_ #[27, 27] 27 #[v, u]).run Tryd.prog w = .ok (.slice (some ⟨g, 0, none⟩) (L.length + 1) c) w' ∧ FOwn 40 10 ncell 0 w' (.slice (some ⟨g, 0, none⟩) (L.length + 1) c) (L ++ [z]) ∧ Exc O w w' ∧ (O g ∨ w.heap.size ≤ g) ∧ g < w'.heap.size := by
  obtain ⟨i0, hi, hz0, hz1, hz2⟩ := info_parts infoNd
  have fin : ∀ x' w', (Builtin.append_ #[27, 27] 27 #[v, u]).run Tryd.prog w = .ok x' w' → FOwn 40 10 ncell 0 w' x' (L ++ [z]) → Exc O w w' → (∀ k, x'.ownBlock = some k → O k ∨ w.heap.size ≤ k) →
      ∃ g c w', (Builtin.append_ #[27, 27] 27 #[v, u]).run Tryd.prog w = .ok (.slice (some ⟨g, 0, none⟩) (L.length + 1) c) w' ∧ FOwn 40 10 ncell 0 w' (.slice (some ⟨g, 0, none⟩) (L.length + 1) c) (L ++ [z]) ∧ Exc O w w' ∧ (O g ∨ w.heap.size ≤ g) ∧ g < w'.heap.size := fun x' w' hr ho hE hg => by
    obtain ⟨g, c, e, -, -, cur, hcur, -⟩ := ho.place ncell_len (by simp)
    have e2 : (L ++ [z]).length = L.length + 1 := by simp
    rw [e2] at e
    subst e
    exact ⟨g, c, w', hr, ho, hE, hg g rfl, (Array.getElem?_eq_some_iff.1 hcur).1⟩
  rcases h with ⟨ho, hO⟩ | ⟨hF, a, hv⟩
  · obtain ⟨x', w', hr, ho', hg, hq⟩ := fapp (P := Tryd.prog) (t := 27) ncell_len ncell_one (by decide) Tryd.underlying27 hi hz0 hz1 hz2 rfl (by decide) ho hf (Nat.zero_le _) (by simp; omega)
    refine fin x' w' hr ho' ⟨hg.os, hg.tape, hg.output, hg.size, fun k hk hx => hg.block k hk (fun e => hx (hO k e.symm))⟩ (fun k hk => ?_)
    rcases hq with e | e
    · exact .inl (hO k (e ▸ hk))
    · rw [e] at hk
      exact .inr (Nat.le_of_eq (Option.some.inj hk))
  · subst hv hu
    rcases a with _ | b
    · obtain ⟨⟨a2, c2, e2, -, hr2⟩, -⟩ := hF
      injection e2 with e3 e4 e5
      subst e3
      have hL : L = [] := by
        cases L with
        | nil => rfl
        | cons x r =>
          obtain ⟨g, off, h0, -⟩ := hr2 0 x rfl
          cases h0
      subst hL
      obtain ⟨x', w', hr, ho', hg, hq⟩ := fapp (P := Tryd.prog) (t := 27) ncell_len ncell_one (by decide) Tryd.underlying27 hi hz0 hz1 hz2 rfl (by decide) (FOwn.nil (e := 40) (n := 10) (f := ncell) 0 w) hf (Nat.zero_le _) (by simp)
      refine fin x' w' hr ho' ⟨hg.os, hg.tape, hg.output, hg.size, fun k hk hx => hg.block k hk (fun e => by cases e)⟩ (fun k hk => ?_)
      rcases hq with e | e
      · rw [e] at hk; cases hk
      · rw [e] at hk
        exact .inr (Nat.le_of_eq (Option.some.inj hk))
    · obtain ⟨⟨a2, c2, e2, -, hr2⟩, -⟩ := hF
      injection e2 with e3 e4 e5
      subst e3
      obtain ⟨a3, c3, e6, -, hr3⟩ := hf
      injection e6 with e7 e8 e9
      subst e7
      have hold : ∀ j u, (flatV ncell L)[j]? = some u → w.cell? (b.add j) = some u := fun j u hj => by
        obtain ⟨q, i, y, rfl, hq, hi'⟩ := flatV_inv ncell_len L j u hj
        obtain ⟨g, off, hg, h0⟩ := hr2 q y hq
        obtain rfl := Option.some.inj hg
        rw [Addr.add_lit]
        exact h0 i u hi'
      have hnew : ∀ j u, (flatV ncell [z])[j]? = some u → w.cell? (ad.add j) = some u := fun j u hj => by
        obtain ⟨q, i, y, rfl, hq, hi'⟩ := flatV_inv ncell_len [z] j u hj
        obtain ⟨g, off, hg, h0⟩ := hr3 q y hq
        obtain rfl := Option.some.inj hg
        rw [Addr.add_lit]
        exact h0 i u hi'
      obtain ⟨x', w', hr, ho', hg⟩ := run_append_arg_grows (P := Tryd.prog) w 27 27 40 i0 _ 10 144 Tryd.underlying27 hi hz0 hz1 hz2 rfl (by decide) b L.length L.length (flatV ncell L) (flatV_len ncell_len L) hold ad 1 c0 (flatV ncell [z]) (flatV_len ncell_len [z]) hnew (by omega) (by unfold maxLen; omega) (by omega)
      have ho2 : FOwn 40 10 ncell w.heap.size w' x' (L ++ [z]) := by
        unfold FOwn
        rw [flatV_app, List.length_append]
        exact ho'
      refine fin x' w' hr ho2.z ⟨hg.os, hg.tape, hg.output, hg.size, fun k hk hx => hg.block k hk (by simp)⟩ (fun k hk => ?_)
      obtain ⟨g, c, e, -, hgb, cur, hcur, -⟩ := ho2.place ncell_len (by simp)
      subst e
      simp only [Value.ownBlock, Option.some.injEq] at hk
      exact .inr (by omega)
end
end Go.Proofs.YtpccjgoeoeehoaaDoor
namespace Go.Proofs.YtpccjgoeoeehoaaDoor
open Go.RowKit
/-- A builder's seven cells. -/
def bcell (n : Nm) (kv ov : PV) (pa : Value) : List Value := [.string ⟨n.a.toArray⟩, .string ⟨n.b.toArray⟩, .string ⟨n.c.toArray⟩, .string ⟨n.d.toArray⟩, pv kv, pv ov, pa]
/-- A paragraph's node. -/
def pnode (line : Int) (tv : PV) : NV := ⟨3, line, 0, tv, nilP, nilP, [], nilP, false, false⟩
/-- The paragraph: none; or a node, its own (4, its text 5), or to be read alone. -/
def PaIs (m : Bool) (lab : Nat → Nat) (R : Nat → Prop) (w : World) (pa : Value) (t : Bt) : Prop :=
  (t.has = false ∧ pa = .pointer none ∧ t.text = [] ∧ t.line = 0) ∨
  (t.has = true ∧ ∃ g tv, pa = .pointer (some ⟨g, 0, none⟩) ∧ Blk w g 40 (ncell (pnode t.line tv)) ∧
    ((m = true ∧ lab g = 4 ∧ FOwn 56 2 gcell 0 w (pv tv) t.text ∧ ∀ k, (pv tv).ownBlock = some k → lab k = 5) ∨ (m = false ∧ R g ∧ FsS R 2 gcell w (pv tv) t.text)))
/-- A builder: 1 its box, 2 its nodes' row, 3 what is open, 4 and 5 the paragraph, 6 + i the nodes within the open node i; 0 is not its own. -/
structure BC (m : Bool) (R : Nat → Prop) (w : World) (b : Nat) (t : Bt) (kv ov : PV) (pa : Value) (LO : List NV) (lab : Nat → Nat) : Prop where
  ll : ∀ k, lab k ≠ 0 → k < w.heap.size
  rl : ∀ k, R k → k < w.heap.size
  sep : ∀ k, R k → lab k = 0
  lb : lab b = 1
  box : Blk w b 71 (bcell t.nm kv ov pa)
  kids : RwN R (fun k => lab k = 2) w (pv kv) t.kids
  opn : FOwn 40 10 ncell 0 w (pv ov) LO
  opb : ∀ k, (pv ov).ownBlock = some k → lab k = 3
  ol : LO.length = t.opn.length
  on : ∀ (i : Nat) x y, LO[i]? = some x → t.opn[i]? = some y → HdIs R w x y.hd ∧ RwN R (fun k => lab k = 6 + i) w (pv x.kids) y.kids
  para : PaIs m lab R w pa t
/-- .. with all that is its own in X. -/
def BM (m : Bool) (X R : Nat → Prop) (w : World) (b : Nat) (t : Bt) : Prop := ∃ kv ov pa LO lab, BC m R w b t kv ov pa LO lab ∧ ∀ k, X k ↔ lab k ≠ 0
section
variable {m : Bool} {X R R' : Nat → Prop} {w w' : World} {b : Nat} {t : Bt} {kv ov : PV} {pa : Value} {LO : List NV} {lab lab' : Nat → Nat}
theorem PaIs.keep (h : PaIs m lab R w pa t) (hR : Kp R w w') (hX : Kp (fun k => lab k = 4 ∨ lab k = 5) w w') : PaIs m lab R w' pa t := by
  rcases h with h | ⟨h1, g, tv, h2, h3, h4⟩
  · exact .inl h
  · refine .inr ⟨h1, g, tv, h2, ?_, ?_⟩
    · rcases h4 with ⟨-, q, -⟩ | ⟨-, q, -⟩
      · exact (hX g (.inl q)).trans h3
      · exact (hR g q).trans h3
    · exact h4.imp (fun ⟨q1, q2, q3, q4⟩ => ⟨q1, q2, q3.kp (fun k e => hX k (.inr (q4 k e))), q4⟩) (fun ⟨q1, q2, q3⟩ => ⟨q1, q2, q3.keep hR⟩)
theorem PaIs.relab (h : PaIs m lab R w pa t) (hR : ∀ k, R k → R' k) (h4 : ∀ k, lab k = 4 → lab' k = 4) (h5 : ∀ k, lab k = 5 → lab' k = 5) : PaIs m lab' R' w pa t := by
  rcases h with h | ⟨q1, g, tv, q2, q3, q4⟩
  · exact .inl h
  · exact .inr ⟨q1, g, tv, q2, q3, q4.imp (fun ⟨z1, z2, z3, z4⟩ => ⟨z1, h4 _ z2, z3, fun k e => h5 _ (z4 k e)⟩) (fun ⟨z1, z2, z3⟩ => ⟨z1, hR _ z2, z3.mono hR⟩)⟩
/-- All that is its own, and all that it reads, stands: so does the builder. -/
theorem BC.keep (h : BC m R w b t kv ov pa LO lab) (hX : Kp (fun k => lab k ≠ 0) w w') (hR : Kp R w w') (hs : w.heap.size ≤ w'.heap.size) : BC m R w' b t kv ov pa LO lab :=
  have kz : ∀ z, z ≠ 0 → Kp (fun k => lab k = z) w w' := fun z hz k e => hX k (show lab k ≠ 0 by rw [show lab k = z from e]; exact hz)
  ⟨fun k q => Nat.lt_of_lt_of_le (h.ll k q) hs, fun k q => Nat.lt_of_lt_of_le (h.rl k q) hs, h.sep, h.lb, (hX b (show lab b ≠ 0 by rw [h.lb]; decide)).trans h.box, h.kids.keep hR (kz 2 (by decide)),
    h.opn.kp (fun k e => hX k (show lab k ≠ 0 by rw [h.opb k e]; decide)), h.opb, h.ol, fun i x y a c => ⟨(h.on i x y a c).1.keep hR, (h.on i x y a c).2.keep hR (kz _ (by omega))⟩, PaIs.keep h.para hR (fun k q => hX k (show lab k ≠ 0 by rcases q with q | q <;> omega))⟩
theorem BM.keep (h : BM m X R w b t) (hX : Kp X w w') (hR : Kp R w w') (hs : w.heap.size ≤ w'.heap.size) : BM m X R w' b t := by
  obtain ⟨kv, ov, pa, LO, lab, h1, h2⟩ := h
  exact ⟨kv, ov, pa, LO, lab, h1.keep (fun k q => hX k ((h2 k).2 q)) hR hs, h2⟩
theorem BM.lt (h : BM m X R w b t) : ∀ k, X k ∨ R k → k < w.heap.size := by
  obtain ⟨kv, ov, pa, LO, lab, h1, h2⟩ := h
  exact fun k q => q.elim (fun q => h1.ll k ((h2 k).1 q)) (h1.rl k)
theorem BM.self (h : BM m X R w b t) : X b := by
  obtain ⟨kv, ov, pa, LO, lab, h1, h2⟩ := h
  exact (h2 b).2 (by rw [h1.lb]; decide)
/-- More is read. -/
theorem BC.more (h : BC m R w b t kv ov pa LO lab) (hR : ∀ k, R k → R' k) (hn : ∀ k, R' k → R k ∨ (k < w.heap.size ∧ lab k = 0)) : BC m R' w b t kv ov pa LO lab :=
  ⟨h.ll, fun k q => (hn k q).elim (h.rl k) (fun z => z.1), fun k q => (hn k q).elim (h.sep k) (fun z => z.2), h.lb, h.box, h.kids.mono hR (fun _ q => q), h.opn, h.opb, h.ol,
    fun i x y a c => ⟨(h.on i x y a c).1.mono hR, (h.on i x y a c).2.mono hR (fun _ q => q)⟩, PaIs.relab h.para hR (fun _ q => q) (fun _ q => q)⟩
theorem BM.more (h : BM m X R w b t) (hR : ∀ k, R k → R' k) (hn : ∀ k, R' k → R k ∨ (k < w.heap.size ∧ ¬ X k)) : BM m X R' w b t := by
  obtain ⟨kv, ov, pa, LO, lab, h1, h2⟩ := h
  refine ⟨kv, ov, pa, LO, lab, h1.more hR (fun k q => (hn k q).imp id (fun z => ⟨z.1, ?_⟩)), h2⟩
  have := z.2
  rw [h2 k] at this
  omega
/-- One of those that are open. -/
theorem BC.at (h : BC m R w b t kv ov pa LO lab) {i : Nat} {y : Nd} (hy : t.opn[i]? = some y) : ∃ g c x, pv ov = .slice (some ⟨g, 0, none⟩) t.opn.length c ∧ t.opn.length ≤ c ∧ lab g = 3 ∧ LO[i]? = some x ∧ (∀ (j : Nat) u, (ncell x)[j]? = some u → w.cell? ⟨g, i * 10 + j, none⟩ = some u ∧ w.frozen? ⟨g, i * 10 + j, none⟩ = false) ∧ HdIs R w x y.hd ∧ RwN R (fun k => lab k = 6 + i) w (pv x.kids) y.kids := by
  have hi := (List.getElem?_eq_some_iff.1 hy).1
  have hl := h.ol
  obtain ⟨x, hx⟩ : ∃ x, LO[i]? = some x := ⟨LO[i]'(by omega), List.getElem?_eq_getElem _⟩
  obtain ⟨g, c, e, hc, -, -⟩ := h.opn.place ncell_len (by omega)
  have ho := h.opn
  rw [e] at ho
  refine ⟨g, c, x, by rw [e, hl], by omega, h.opb g (by rw [e]; rfl), hx, fun j u hu => ho.slotA ncell_len hx hu, h.on i x y hx hy⟩
theorem BC.olen (h : BC m R w b t kv ov pa LO lab) : ∃ a c, pv ov = .slice a t.opn.length c ∧ t.opn.length ≤ c := by
  obtain ⟨a, c, e, hc, -⟩ := FOwn.sl ncell_len h.opn
  exact ⟨a, c, h.ol ▸ e, h.ol ▸ hc⟩
end
end Go.Proofs.YtpccjgoeoeehoaaDoor
namespace Go.Proofs.YtpccjgoeoeehoaaDoor
open Go.RowKit
section
variable {R O : Nat → Prop} {W : World} {v : Value} {l : List Nd}
theorem flatV_set {α : Type} {n : Nat} {f : α → List Value} (hf : ∀ x, (f x).length = n) {l : List α} {j : Nat} {s s' : α} (hs : l[j]? = some s) {i : Nat} {u : Value} (hi : i < n) (hu : f s' = (f s).set i u) : flatV f (l.set j s') = (flatV f l).set (j * n + i) u := by
  have hj := (List.getElem?_eq_some_iff.1 hs).1
  have e6 := split_at hs
  have e7 : l.set j s' = l.take j ++ [s'] ++ l.drop (j + 1) := by
    rw [List.set_eq_take_append_cons_drop]
    simp [hj]
  have e8 : (flatV f (l.take j)).length = j * n := by rw [flatV_len hf, List.length_take, Nat.min_eq_left (Nat.le_of_lt hj)]
  rw [e7, flatV_app, flatV_app, flatV_one, hu]
  conv => rhs; rw [e6, flatV_app, flatV_app, flatV_one, ← e8]
  rw [List.append_assoc, List.append_assoc, List.set_append_right _ _ (by omega), show (flatV f (l.take j)).length + i - (flatV f (l.take j)).length = i by omega, List.set_append_left _ _ (by rw [hf]; exact hi)]
theorem one_at' {α β : Type} {x x' : α} {y y' : β} {i : Nat} (h : [x][i]? = some x') (k : [y][i]? = some y') : x = x' ∧ y = y' := by
  match i, h, k with
  | 0, h, k => exact ⟨by simpa using h, by simpa using k⟩
  | i + 1, h, k => simp at h
theorem FOwn.set1 {α : Type} {e n base : Nat} {f : α → List Value} (hf : ∀ x, (f x).length = n) {l : List α} {g c N : Nat} (h : FOwn e n f base W (.slice (some ⟨g, 0, none⟩) N c) l) {j : Nat} {s s' : α} (hs : l[j]? = some s) {i : Nat} {u : Value} (hi : i < n) (hu : f s' = (f s).set i u) :
    FOwn e n f base (W.setCell ⟨g, j * n + i, none⟩ u) (.slice (some ⟨g, 0, none⟩) N c) (l.set j s') := by
  obtain ⟨a, c', e2⟩ := (FOwn.sl hf h).len
  injection e2 with e3 e4 e5
  have h' : W.ownsRow base e n (.slice (some ⟨g, 0, none⟩) N c) l.length (flatV f l) := h
  rw [← e4] at h'
  have k := (h'.stored (j * n + i) u).1
  rw [← flatV_set hf hs hi hu] at k
  unfold FOwn
  rw [List.length_set, ← e4]
  exact k
/-- A node behind a row of them. -/
theorem RwN.push (h : RwN R O W v l) (hlt : ∀ k, R k ∨ O k → k < W.heap.size) (hRO : ∀ k, R k → ¬ O k) {x : NV} {y : Nd} (hx : HdIs R W x y.hd) (hk : NsS R W (pv x.kids) y.kids) (hl : l.length ≤ 400000) {W1 : World} (b1 : Below W.heap.size W W1) (hz : Blk W1 W.heap.size 40 zNd) :
    ∃ g c w', (Builtin.append_ #[27, 27] 27 #[v, .slice (some ⟨W.heap.size, 0, none⟩) 1 1]).run Tryd.prog W1 = .ok (.slice (some ⟨g, 0, none⟩) (l.length + 1) c) w' ∧ l.length + 1 ≤ c ∧ Exc O W w' ∧ (O g ∨ W.heap.size ≤ g) ∧ g < w'.heap.size ∧
      (∀ (i : Nat) u, zNd[i]? = some u → w'.cell? ⟨g, l.length * 10 + i, none⟩ = some u ∧ w'.frozen? ⟨g, l.length * 10 + i, none⟩ = false) ∧ RwN R (fun k => k = g) (w'.setCells g (l.length * 10) (ncell x)) (.slice (some ⟨g, 0, none⟩) (l.length + 1) c) (l ++ [y]) := by
  have hRl : ∀ k, R k → k < W.heap.size := fun k q => hlt k (.inl q)
  have kR1 : Kp R W W1 := Kp.below b1 hRl
  have kO1 : Kp O W W1 := Kp.below b1 (fun k q => hlt k (.inr q))
  obtain ⟨L, h1, h2, h3⟩ := h.keep kR1 kO1
  have hz' : Fs 10 ncell W1 (.slice (some ⟨W.heap.size, 0, none⟩) 1 1) [(⟨0, 0, 0, nilP, nilP, nilP, [], nilP, false, false⟩ : NV)] := by
    refine ⟨_, _, rfl, Nat.le_refl _, fun j x hj => ⟨_, _, rfl, fun i c hi => ?_⟩⟩
    match j, hj with
    | 0, hj =>
      simp at hj
      subst hj
      rw [Nat.zero_add, Nat.zero_mul, Nat.zero_add, hz.cell i]
      exact hi
    | j + 1, hj => simp at hj
  obtain ⟨g, c, w', hr, ho, hE, hg, hgl⟩ := h1.app1 (by omega) rfl hz'
  rw [h2] at hr ho
  have hc : l.length + 1 ≤ c := by
    obtain ⟨a, c', e, hc', -⟩ := FOwn.sl ncell_len ho
    injection e with e1 e2 e3
    subst e3
    simpa [h2] using hc'
  have hgR : ∀ k, R k → k ≠ g := fun k q e => by
    subst e
    have := hRl k q
    have := b1.size
    rcases hg with z | z
    · exact hRO k q z
    · omega
  have hEW : Exc O W w' := (Exc.of (X := O) b1).trans hE (fun _ _ q => q)
  refine ⟨g, c, w', hr, hc, hEW, hg.imp id (fun z => Nat.le_trans b1.size z), hgl, fun i u hi => ?_, ?_⟩
  · have := ho.slotA ncell_len (j := l.length) (s := ⟨0, 0, 0, nilP, nilP, nilP, [], nilP, false, false⟩) (by rw [List.getElem?_append_right (by omega), h2]; simp) (i := i) (u := u) hi
    exact this
  · have kR : Kp R W (w'.setCells g (l.length * 10) (ncell x)) := fun k q => (heap_setC (hgR k q) _ _ _).trans (hEW.block k (hRl k q) (hRO k q))
    have kR' : Kp R W1 (w'.setCells g (l.length * 10) (ncell x)) := fun k q => (kR k q).trans (kR1 k q).symm
    have hp := ho.putA ncell_len (j := l.length) (by simp [h2]) x
    have e1 : (L ++ [(⟨0, 0, 0, nilP, nilP, nilP, [], nilP, false, false⟩ : NV)]).set l.length x = L ++ [x] := by
      rw [List.set_append_right _ _ (by omega), h2]
      simp
    rw [e1] at hp
    refine ⟨L ++ [x], .inl ⟨hp, fun k e => (Option.some.inj e).symm⟩, by simp [h2], fun i x' y' hx' hy' => ?_⟩
    by_cases hil : i < l.length
    · rw [List.getElem?_append_left (by omega)] at hx' hy'
      obtain ⟨q1, q2⟩ := h3 i x' y' hx' hy'
      exact ⟨q1.keep kR', q2.keep kR'⟩
    · rw [List.getElem?_append_right (by omega)] at hx' hy'
      rw [h2] at hx'
      obtain ⟨rfl, rfl⟩ := one_at' hx' hy'
      exact ⟨hx.keep kR, hk.keep kR⟩
end
section
variable {m : Bool} {X R : Nat → Prop} {w : World} {b : Nat} {t : Bt}
/-- What 'put' finds, and what becomes of the builder. -/
def LayP (m : Bool) (X R : Nat → Prop) (w : World) (b : Nat) (t t' : Bt) (x : NV) (pb po : Nat) (ka : Option Addr) (kn kc : Nat) : Prop :=
  X pb ∧ w.cell? ⟨pb, po, none⟩ = some (.slice ka kn kc) ∧ ∀ W W1, Below w.heap.size w W → Below W.heap.size W W1 → Blk W1 W.heap.size 40 zNd →
    ∃ g c w', (Builtin.append_ #[27, 27] 27 #[.slice ka kn kc, .slice (some ⟨W.heap.size, 0, none⟩) 1 1]).run Tryd.prog W1 = .ok (.slice (some ⟨g, 0, none⟩) (kn + 1) c) w' ∧ kn + 1 ≤ c ∧ kn ≤ 400000 ∧
      (∀ (i : Nat) u, zNd[i]? = some u → w'.cell? ⟨g, kn * 10 + i, none⟩ = some u ∧ w'.frozen? ⟨g, kn * 10 + i, none⟩ = false) ∧
      (w'.setCells g (kn * 10) (ncell x)).cell? ⟨pb, po, none⟩ = some (.slice ka kn kc) ∧ (w'.setCells g (kn * 10) (ncell x)).frozen? ⟨pb, po, none⟩ = false ∧
      w'.cell? ⟨pb, po, none⟩ = some (.slice ka kn kc) ∧ w'.frozen? ⟨pb, po, none⟩ = false ∧ g ≠ pb ∧ (∀ k, w.heap.size ≤ k → k < W.heap.size → k ≠ g ∧ w'.heap[k]? = W.heap[k]?) ∧
      ∃ X', BM m X' R ((w'.setCells g (kn * 10) (ncell x)).setCell ⟨pb, po, none⟩ (.slice (some ⟨g, 0, none⟩) (kn + 1) c)) b t' ∧ Exc X w ((w'.setCells g (kn * 10) (ncell x)).setCell ⟨pb, po, none⟩ (.slice (some ⟨g, 0, none⟩) (kn + 1) c)) ∧ ∀ k, X' k → X k ∨ w.heap.size ≤ k
theorem BM.lay0 (h : BM m X R w b t) (ho : t.opn = []) (hl : t.kids.length ≤ 400000) {x : NV} {y : Nd} (hx : HdIs R w x y.hd) (hk : NsS R w (pv x.kids) y.kids) : ∃ ka kn kc, LayP m X R w b t (bLay t y) x b 4 ka kn kc := by
  rw [lay_none y ho]
  obtain ⟨kv, ov, pa, LO, lab, h1, h2⟩ := h
  obtain ⟨ka, kc, ek, -⟩ := h1.kids.len
  have ek' := ek
  unfold pv at ek'
  refine ⟨ka, t.kids.length, kc, (h2 b).2 (by rw [h1.lb]; decide), ?_, fun W W1 hb hb1 hz => ?_⟩
  · rw [h1.box.cell 4, ← ek]
    rfl
  have hblt := h1.box.lt
  have hks : ∀ k, R k ∨ lab k = 2 → k < w.heap.size := fun k q => q.elim (h1.rl k) (fun q => h1.ll k (by omega))
  have kbR : Kp R w W := Kp.below hb h1.rl
  have kbO : Kp (fun k => lab k = 2) w W := Kp.below hb (fun k q => hks k (.inr q))
  obtain ⟨g, c, w', hr, hc, hE, hg, hgl, hcell, hrow⟩ := (h1.kids.keep kbR kbO).push (fun k q => Nat.lt_of_lt_of_le (hks k q) hb.size) (fun k q z => by have := h1.sep k q; omega) (hx.keep kbR) (hk.keep kbR) hl hb1 hz
  rw [ek] at hr
  have hgb : b ≠ g := fun e => by
    subst e
    rcases hg with z | z
    · have := h1.lb; omega
    · have := hb.size; omega
  have hg' : lab g = 2 ∨ w.heap.size ≤ g := hg.imp id (fun z => Nat.le_trans hb.size z)
  have hEw : Exc (fun k => lab k = 2) w w' := (Exc.of (X := fun k => lab k = 2) hb).trans hE (fun _ _ q => q)
  have box' : Blk w' b 71 (bcell t.nm kv ov pa) := hEw.blk h1.box (by rw [h1.lb]; decide)
  have box2 : Blk (w'.setCells g (t.kids.length * 10) (ncell x)) b 71 (bcell t.nm kv ov pa) := (heap_setC hgb _ _ _).trans box'
  have box3 := box2.set 4 (.slice (some ⟨g, 0, none⟩) (t.kids.length + 1) c)
  obtain ⟨F, hF⟩ : ∃ F, (w'.setCells g (t.kids.length * 10) (ncell x)).setCell ⟨b, 4, none⟩ (.slice (some ⟨g, 0, none⟩) (t.kids.length + 1) c) = F := ⟨_, rfl⟩
  have hFh : ∀ k, k ≠ b → F.heap[k]? = (w'.setCells g (t.kids.length * 10) (ncell x)).heap[k]? := fun k hk => by rw [← hF]; exact Below.heap_setCell _ ⟨b, 4, none⟩ _ k hk
  have hFs : F.heap.size = w'.heap.size := by rw [← hF, szset, sz_setC]
  have kS : ∀ k, k < w.heap.size → lab k ≠ 2 → lab k ≠ 1 → F.heap[k]? = w.heap[k]? := fun k q1 q2 q3 => by
    rw [hFh k (fun e => q3 (by rw [e]; exact h1.lb)), heap_setC (fun e => by subst e; rcases hg' with z | z <;> omega)]
    exact hEw.block k q1 q2
  have kR : Kp R w F := fun k q => kS k (h1.rl k q) (by rw [h1.sep k q]; decide) (by rw [h1.sep k q]; decide)
  have kz : ∀ z, z ≠ 0 → z ≠ 1 → z ≠ 2 → Kp (fun k => lab k = z) w F := fun z a0 a1 a2 k q => kS k (h1.ll k (by rw [show lab k = z from q]; exact a0)) (by rw [show lab k = z from q]; exact a2) (by rw [show lab k = z from q]; exact a1)
  have hsz : w.heap.size ≤ F.heap.size := by rw [hFs]; exact hEw.size
  have hlab : ∀ k, lab k ≠ 2 → lab k ≠ 0 → k ≠ g := fun k q1 q2 e => by
    subst e
    rcases hg' with z | z
    · exact q1 z
    · have := h1.ll k q2; omega
  have e4 : (t.kids ++ [y]).length = t.kids.length + 1 := by simp
  rw [hF] at box3
  refine ⟨g, c, w', hr, hc, hl, hcell, by rw [box2.cell 4, ← ek]; rfl, box2.frozen (by simp [bcell]), by rw [box'.cell 4, ← ek]; rfl, box'.frozen (by simp [bcell]), fun e => hgb e.symm, fun k q1 q2 => ⟨fun e => hg.elim (fun z => by have := hks g (.inr z); omega) (fun z => by omega), hE.block k q2 (fun z => by have := hks k (.inr z); omega)⟩, fun k => lab k ≠ 0 ∨ k = g, ?_, ?_, fun k q => ?_⟩
  · rw [hF]
    refine ⟨(some ⟨g, 0, none⟩, t.kids.length + 1, c), ov, pa, LO, fun k => if k = g then 2 else lab k, ⟨fun k q => ?_, fun k q => Nat.lt_of_lt_of_le (h1.rl k q) hsz, fun k q => ?_, ?_, box3, ?_, ?_, fun k e => ?_, h1.ol, fun i x' y' p q => ?_, ?_⟩, fun k => ?_⟩
    · by_cases e : k = g
      · rw [e, hFs]; exact hgl
      · simp only [if_neg e] at q
        exact Nat.lt_of_lt_of_le (h1.ll k q) hsz
    · have q0 := h1.sep k q
      have : k ≠ g := fun e => by
        subst e
        have := h1.rl k q
        rcases hg' with z | z <;> omega
      simp only [if_neg this, q0]
    · simp only [if_neg hgb, h1.lb]
    · have hrow' : RwN R (fun k => k = g) F (.slice (some ⟨g, 0, none⟩) (t.kids.length + 1) c) (t.kids ++ [y]) := hrow.keep (fun k q => hFh k (fun e => by have := h1.sep k q; rw [e, h1.lb] at this; omega)) (fun k q => hFh k (fun e => hgb (by rw [← e]; exact q)))
      exact hrow'.mono (fun _ q => q) (fun k q => by simp [show k = g from q])
    · exact h1.opn.kp (fun k e => kz 3 (by decide) (by decide) (by decide) k (h1.opb k e))
    · have := h1.opb k e
      have hne := hlab k (by omega) (by omega)
      simp only [if_neg hne, this]
    · obtain ⟨q1, q2⟩ := h1.on i x' y' p q
      exact ⟨q1.keep kR, (q2.keep kR (kz _ (by omega) (by omega) (by omega))).mono (fun _ z => z) (fun k z => by
        have hne := hlab k (by omega) (by omega)
        simp only [if_neg hne]; exact z)⟩
    · have := PaIs.keep h1.para kR (fun k q => q.elim (kz 4 (by decide) (by decide) (by decide) k) (kz 5 (by decide) (by decide) (by decide) k))
      exact PaIs.relab this (fun _ q => q) (fun k q => by
        have hne := hlab k (by omega) (by omega)
        simp only [if_neg hne]; exact q) (fun k q => by
        have hne := hlab k (by omega) (by omega)
        simp only [if_neg hne]; exact q)
    · by_cases e : k = g
      · simp [e]
      · simp [e]
  · rw [hF]
    refine ⟨?_, ?_, ?_, hsz, fun k q1 q2 => ?_⟩
    · rw [← hF]; exact ((exc_setC (X := fun _ => True) (a := w) (g := g) (fun _ => trivial) (ncell x) _ w' (hEw.mono (fun _ _ _ => trivial))).set 4 _ (fun _ => trivial)).os
    · rw [← hF]; exact ((exc_setC (X := fun _ => True) (a := w) (g := g) (fun _ => trivial) (ncell x) _ w' (hEw.mono (fun _ _ _ => trivial))).set 4 _ (fun _ => trivial)).tape
    · rw [← hF]; exact ((exc_setC (X := fun _ => True) (a := w) (g := g) (fun _ => trivial) (ncell x) _ w' (hEw.mono (fun _ _ _ => trivial))).set 4 _ (fun _ => trivial)).output
    · rw [h2 k] at q2
      exact kS k q1 (by omega) (by omega)
  · rcases q with q | q
    · exact .inl ((h2 k).2 q)
    · subst q
      rcases hg' with z | z
      · exact .inl ((h2 k).2 (by omega))
      · exact .inr z
end
end Go.Proofs.YtpccjgoeoeehoaaDoor
namespace Go.Proofs.YtpccjgoeoeehoaaDoor
open Go.RowKit
def NV.wkids (x : NV) (s : PV) : NV := ⟨x.kind, x.line, x.n, x.text, s, x.rows, x.cols, x.trows, x.box, x.all⟩
theorem HdIs.wkids {S : Nat → Prop} {w : World} {x : NV} {h : Hd} (k : HdIs S w x h) (s : PV) : HdIs S w (x.wkids s) h := ⟨k.kind, k.line, k.n, k.text, k.rows, k.cols, k.trows, k.box, k.all⟩
theorem exc_any (X : Nat → Prop) {a w' : World} (h : Exc X a w') (g o b p : Nat) (vs : List Value) (v : Value) : ((w'.setCells g o vs).setCell ⟨b, p, none⟩ v).os = a.os ∧ ((w'.setCells g o vs).setCell ⟨b, p, none⟩ v).tape = a.tape ∧ ((w'.setCells g o vs).setCell ⟨b, p, none⟩ v).output = a.output := by
  have k := ((exc_setC (X := fun _ => True) (a := a) (g := g) (fun _ => trivial) vs o w' (h.mono (fun _ _ _ => trivial))).set (g := b) p v (fun _ => trivial))
  exact ⟨k.os, k.tape, k.output⟩
section
variable {m : Bool} {X R : Nat → Prop} {w : World} {b : Nat} {t : Bt}
theorem BM.lay1 (h : BM m X R w b t) {l : List Nd} {y0 : Nd} (ho : t.opn = l ++ [y0]) (hl : y0.kids.length ≤ 400000) {x : NV} {y : Nd} (hx : HdIs R w x y.hd) (hk : NsS R w (pv x.kids) y.kids) :
    ∃ og oc ka kn kc, w.cell? ⟨b, 5, none⟩ = some (.slice (some ⟨og, 0, none⟩) (l.length + 1) oc) ∧ LayP m X R w b t (bLay t y) x og (l.length * 10 + 4) ka kn kc := by
  rw [lay_some y ho]
  obtain ⟨kv, ov, pa, LO, lab, h1, h2⟩ := h
  have hy0 : t.opn[l.length]? = some y0 := by rw [ho]; simp
  obtain ⟨og, oc, x0, eo, hoc, hog, hx0, hcel, hH0, hK0⟩ := h1.at hy0
  have htl : t.opn.length = l.length + 1 := by rw [ho]; simp
  obtain ⟨ka, kc, ek, -⟩ := hK0.len
  have c4 := (hcel 4 _ rfl).1
  rw [ek] at c4
  rw [htl] at eo
  refine ⟨og, oc, ka, y0.kids.length, kc, ?_, (h2 og).2 (by rw [hog]; decide), c4, fun W W1 hb hb1 hz => ?_⟩
  · rw [h1.box.cell 5, ← eo]
    rfl
  have hollt := h1.ll og (by omega)
  have hks : ∀ k, R k ∨ lab k = 6 + l.length → k < w.heap.size := fun k q => q.elim (h1.rl k) (fun q => h1.ll k (by omega))
  have kbR : Kp R w W := Kp.below hb h1.rl
  have kbO : Kp (fun k => lab k = 6 + l.length) w W := Kp.below hb (fun k q => hks k (.inr q))
  obtain ⟨g, c, w', hr, hc, hE, hg, hgl, hcell, hrow⟩ := (hK0.keep kbR kbO).push (fun k q => Nat.lt_of_lt_of_le (hks k q) hb.size) (fun k q z => by have := h1.sep k q; omega) (hx.keep kbR) (hk.keep kbR) hl hb1 hz
  rw [ek] at hr
  have hgb : og ≠ g := fun e => by
    subst e
    rcases hg with z | z
    · omega
    · have := hb.size; omega
  have hg' : lab g = 6 + l.length ∨ w.heap.size ≤ g := hg.imp id (fun z => Nat.le_trans hb.size z)
  have hEw : Exc (fun k => lab k = 6 + l.length) w w' := (Exc.of (X := fun k => lab k = 6 + l.length) hb).trans hE (fun _ _ q => q)
  have hogN : ¬ lab og = 6 + l.length := by omega
  have ho1 := h1.opn
  rw [eo] at ho1
  have ho2 : FOwn 40 10 ncell 0 w' (.slice (some ⟨og, 0, none⟩) (l.length + 1) oc) LO := ho1.kp (fun k e => by
    obtain rfl := Option.some.inj e
    exact hEw.block og hollt hogN)
  have ho3 : FOwn 40 10 ncell 0 (w'.setCells g (y0.kids.length * 10) (ncell x)) (.slice (some ⟨og, 0, none⟩) (l.length + 1) oc) LO := ho2.kp (fun k e => by
    obtain rfl := Option.some.inj e
    exact heap_setC hgb _ _ _)
  have ho4 := ho3.set1 ncell_len (s' := x0.wkids (some ⟨g, 0, none⟩, y0.kids.length + 1, c)) hx0 (i := 4) (u := .slice (some ⟨g, 0, none⟩) (y0.kids.length + 1) c) (by decide) rfl
  obtain ⟨d2, f2⟩ := ho2.slotA ncell_len hx0 (i := 4) (u := pv x0.kids) rfl
  obtain ⟨d3, f3⟩ := ho3.slotA ncell_len hx0 (i := 4) (u := pv x0.kids) rfl
  rw [ek] at d2 d3
  obtain ⟨F, hF⟩ : ∃ F, (w'.setCells g (y0.kids.length * 10) (ncell x)).setCell ⟨og, l.length * 10 + 4, none⟩ (.slice (some ⟨g, 0, none⟩) (y0.kids.length + 1) c) = F := ⟨_, rfl⟩
  have hFh : ∀ k, k ≠ og → F.heap[k]? = (w'.setCells g (y0.kids.length * 10) (ncell x)).heap[k]? := fun k hk => by rw [← hF]; exact Below.heap_setCell _ ⟨og, _, none⟩ _ k hk
  have hFs : F.heap.size = w'.heap.size := by rw [← hF, szset, sz_setC]
  have kS : ∀ k, k < w.heap.size → lab k ≠ 6 + l.length → lab k ≠ 3 → F.heap[k]? = w.heap[k]? := fun k q1 q2 q3 => by
    rw [hFh k (fun e => q3 (by rw [e]; exact hog)), heap_setC (fun e => by subst e; rcases hg' with z | z <;> omega)]
    exact hEw.block k q1 q2
  have kR : Kp R w F := fun k q => kS k (h1.rl k q) (by rw [h1.sep k q]; omega) (by rw [h1.sep k q]; decide)
  have kz : ∀ z, z ≠ 0 → z ≠ 3 → z ≠ 6 + l.length → Kp (fun k => lab k = z) w F := fun z a0 a1 a2 k q => kS k (h1.ll k (by rw [show lab k = z from q]; exact a0)) (by rw [show lab k = z from q]; exact a2) (by rw [show lab k = z from q]; exact a1)
  have hsz : w.heap.size ≤ F.heap.size := by rw [hFs]; exact hEw.size
  have hlab : ∀ k, lab k ≠ 6 + l.length → lab k ≠ 0 → k ≠ g := fun k q1 q2 e => by
    subst e
    rcases hg' with z | z
    · exact q1 z
    · have := h1.ll k q2; omega
  rw [hF] at ho4
  refine ⟨g, c, w', hr, hc, hl, hcell, d3, f3, d2, f2, fun e => hgb e.symm, fun k q1 q2 => ⟨fun e => hg.elim (fun z => by have := hks g (.inr z); omega) (fun z => by omega), hE.block k q2 (fun z => by have := hks k (.inr z); omega)⟩, fun k => lab k ≠ 0 ∨ k = g, ?_, ?_, fun k q => ?_⟩
  · rw [hF]
    refine ⟨kv, ov, pa, LO.set l.length (x0.wkids (some ⟨g, 0, none⟩, y0.kids.length + 1, c)), fun k => if k = g then 6 + l.length else lab k, ⟨fun k q => ?_, fun k q => Nat.lt_of_lt_of_le (h1.rl k q) hsz, fun k q => ?_, ?_, ?_, ?_, ?_, fun k e => ?_, ?_, fun i x' y' p q => ?_, ?_⟩, fun k => ?_⟩
    · by_cases e : k = g
      · rw [e, hFs]; exact hgl
      · simp only [if_neg e] at q
        exact Nat.lt_of_lt_of_le (h1.ll k q) hsz
    · have q0 := h1.sep k q
      have : k ≠ g := fun e => by
        subst e
        have := h1.rl k q
        rcases hg' with z | z <;> omega
      simp only [if_neg this, q0]
    · have := hlab b (by rw [h1.lb]; omega) (by rw [h1.lb]; decide)
      simp only [if_neg this, h1.lb]
    · exact (kz 1 (by decide) (by decide) (by omega) b h1.lb).trans h1.box
    · exact (h1.kids.keep kR (kz 2 (by decide) (by decide) (by omega))).mono (fun _ q => q) (fun k q => by
        have hne := hlab k (by omega) (by omega)
        simp only [if_neg hne]; exact q)
    · rw [eo]; exact ho4
    · have := h1.opb k e
      have hne := hlab k (by omega) (by omega)
      simp only [if_neg hne, this]
    · rw [List.length_set, h1.ol, htl]; simp
    · have hil : i < l.length + 1 := by
        have := (List.getElem?_eq_some_iff.1 q).1
        simpa using this
      by_cases e : i = l.length
      · subst e
        have hlo : l.length < LO.length := (List.getElem?_eq_some_iff.1 hx0).1
        rw [List.getElem?_set_self hlo] at p
        obtain rfl := Option.some.inj p
        have e2 : (l ++ [ownKid y0 y])[l.length]? = some (ownKid y0 y) := by simp
        rw [e2] at q
        obtain rfl := Option.some.inj q
        refine ⟨(hH0.keep kR).wkids _, ?_⟩
        have hrow' : RwN R (fun k => k = g) F (.slice (some ⟨g, 0, none⟩) (y0.kids.length + 1) c) (y0.kids ++ [y]) := hrow.keep (fun k q => hFh k (fun e => by have := h1.sep k q; rw [e, hog] at this; omega)) (fun k q => hFh k (fun e => hgb (by rw [← e]; exact q)))
        exact hrow'.mono (fun _ q => q) (fun k q => by simp [show k = g from q])
      · rw [List.getElem?_set_ne (fun z => e z.symm)] at p
        have q' : t.opn[i]? = some y' := by
          rw [ho]
          rw [List.getElem?_append_left (by omega)] at q ⊢
          exact q
        obtain ⟨q1, q2⟩ := h1.on i x' y' p q'
        exact ⟨q1.keep kR, (q2.keep kR (kz _ (by omega) (by omega) (by omega))).mono (fun _ z => z) (fun k z => by
          have hne := hlab k (by omega) (by omega)
          simp only [if_neg hne]; exact z)⟩
    · have := PaIs.keep h1.para kR (fun k q => q.elim (kz 4 (by decide) (by decide) (by omega) k) (kz 5 (by decide) (by decide) (by omega) k))
      exact PaIs.relab this (fun _ q => q) (fun k q => by
        have hne := hlab k (by omega) (by omega)
        simp only [if_neg hne]; exact q) (fun k q => by
        have hne := hlab k (by omega) (by omega)
        simp only [if_neg hne]; exact q)
    · by_cases e : k = g
      · simp [e]
      · simp [e]
  · rw [hF]
    obtain ⟨e1, e2, e3⟩ := exc_any _ hEw g (y0.kids.length * 10) og (l.length * 10 + 4) (ncell x) (.slice (some ⟨g, 0, none⟩) (y0.kids.length + 1) c)
    rw [hF] at e1 e2 e3
    refine ⟨e1, e2, e3, hsz, fun k q1 q2 => ?_⟩
    rw [h2 k] at q2
    exact kS k q1 (by omega) (by omega)
  · rcases q with q | q
    · exact .inl ((h2 k).2 q)
    · subst q
      rcases hg' with z | z
      · exact .inl ((h2 k).2 (by omega))
      · exact .inr z
end
end Go.Proofs.YtpccjgoeoeehoaaDoor
namespace Go.Proofs.YtpccjgoeoeehoaaDoor
open Go.RowKit
/-- A document that was told, in its box. -/
def OneD (o a : Nat) (nm : Nm) (s : PV) (A : List Nd) (W : World) : Prop := Blk W o 29 (docL nm (pv s)) ∧ NsS (fun k => a ≤ k ∧ k < o) W (pv s) A
theorem OneD.keep {o a : Nat} {nm : Nm} {s : PV} {A : List Nd} {W W' : World} (h : OneD o a nm s A W) (ha : a ≤ o) (hk : ∀ k, a ≤ k → k ≤ o → W'.heap[k]? = W.heap[k]?) : OneD o a nm s A W' :=
  ⟨(hk o ha (Nat.le_refl _)).trans h.1, h.2.keep (fun k q => hk k q.1 (Nat.le_of_lt q.2))⟩
theorem OneD.lt {o a : Nat} {nm : Nm} {s : PV} {A : List Nd} {W : World} (h : OneD o a nm s A W) : o < W.heap.size := (Array.getElem?_eq_some_iff.1 h.1).1
end Go.Proofs.YtpccjgoeoeehoaaDoor
