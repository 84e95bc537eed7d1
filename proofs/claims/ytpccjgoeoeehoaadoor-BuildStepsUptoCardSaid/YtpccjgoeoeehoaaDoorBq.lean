/- The document's answer for layer 8: name, Step. The document's answer for layer 8: rows of what is told; Long. The laws' own small functions of layer 8: long, name. The laws' done: what is told goes to the builder's own functions, whatever these keep (P). What the laws of layer 8 ask of a builder, whatever it keeps (BI); TB: what the tables say. Rows of Bools. -/
import Derived.Test.YtpccjgoeoeehoaaDoorBc
set_option linter.unusedVariables false
set_option linter.unusedSimpArgs false
namespace Go.Proofs.YtpccjgoeoeehoaaDoor
open Go.RowKit
def scell (b : List UInt8) : List Value := [.string ⟨b.toArray⟩]
theorem scell_len (b : List UInt8) : (scell b).length = 1 := rfl
def nameAt (l : List (List UInt8)) (k : Nat) : List UInt8 := l.getD k []
set_option maxRecDepth 100000 in
theorem rname_any (fn : Nat) (l : List (List UInt8)) (k : Nat) (v : Value) (w : World) (hv : Fs 1 scell w v l) (hl : l.length ≤ 2000000) (hk : k ≤ 3) :
    Calls Tryd.prog 33 #[v, .int .i64 (k : Int)] w fun e w' => e = .returned (.string ⟨(nameAt l k).toArray⟩) ∧ w' = w := by
  obtain ⟨a, c, rfl, -, hr⟩ := hv
  by_cases hlt : k < l.length
  · obtain ⟨x, hx⟩ : ∃ x, l[k]? = some x := ⟨l[k], List.getElem?_eq_getElem hlt⟩
    obtain ⟨g, off, rfl, hc⟩ := hr k x hx
    have c0 := hc 0 _ rfl
    rw [Nat.mul_one, Nat.add_zero] at c0
    have hN : nameAt l k = x := by unfold nameAt; rw [List.getD_eq_getElem?_getD, hx]; rfl
    rw [hN]
    have h1 : ¬ ((k : Int) ≥ (l.length : Int)) := by omega
    have h2 : (k : Int) < (l.length : Int) := by omega
    have h3 : (0 : Int) ≤ (k : Int) := by omega
    clear hN hx hc hr
    go_enter Tryd.func33, Tryd.ntmps33
    go_wp2_with fail
    go_ret
    exact ⟨rfl, rfl⟩
  · have hN : nameAt l k = [] := by unfold nameAt; rw [List.getD_eq_getElem?_getD, List.getElem?_eq_none (by omega)]; rfl
    rw [hN]
    have h1 : ((k : Int) ≥ (l.length : Int)) := by omega
    clear hr hN
    go_enter Tryd.func33, Tryd.ntmps33
    go_wp2_with fail
    go_ret
    exact ⟨rfl, rfl⟩
structure Dd where
  kind : Int
  s : List (List UInt8)
  x : Nd
  n : Int
  l : List Int
  g : List Gly
structure DV where
  kind : Int
  s : PV
  x : NV
  n : Int
  l : PV
  g : PV
def dcell (v : DV) : List Value := [.int .i64 v.kind, pv v.s, .int .i64 v.x.kind, .int .i64 v.x.line, .int .i64 v.x.n, pv v.x.text, pv v.x.kids, pv v.x.rows, .string ⟨v.x.cols.toArray⟩, pv v.x.trows, .bool v.x.box, .bool v.x.all, .int .i64 v.n, pv v.l, pv v.g]
structure DdIs (S : Nat → Prop) (w : World) (v : DV) (d : Dd) : Prop where
  kind : v.kind = d.kind
  s : FsS S 1 scell w (pv v.s) d.s
  x : NdIs S w v.x d.x
  n : v.n = d.n
  l : FsS S 1 icell w (pv v.l) d.l
  g : FsS S 2 gcell w (pv v.g) d.g
theorem DdIs.keep {S : Nat → Prop} {w w' : World} {v : DV} {d : Dd} (h : DdIs S w v d) (k : Kp S w w') : DdIs S w' v d := ⟨h.kind, h.s.keep k, h.x.keep k, h.n, h.l.keep k, h.g.keep k⟩
theorem DdIs.mono {S T : Nat → Prop} {w : World} {v : DV} {d : Dd} (h : DdIs S w v d) (k : ∀ b, S b → T b) : DdIs T w v d := ⟨h.kind, h.s.mono k, h.x.mono k, h.n, h.l.mono k, h.g.mono k⟩
def ddl (d : Dd) : Nat := 2 + d.g.length + d.l.length + nlN d.x
def bStep (t : Bt) (d : Dd) : Bt × Bool :=
  if d.kind = 1 then ({ t with nm := ⟨nameAt d.s 0, nameAt d.s 1, nameAt d.s 2, nameAt d.s 3⟩ }, false)
  else if d.kind = 2 then (bOpen t d.x, false)
  else if d.kind = 3 then bClose t d.n
  else if d.kind = 4 then (bShut t d.l, false)
  else if d.kind = 5 then (bText t d.g d.n, false)
  else if d.kind = 6 then (bEnd t, false)
  else (bAdd t d.x, false)
theorem TBx.start3g {S : Nat → Prop} {w : World} {x : TV} {t : Bt} (M : List Value) (e : TypeId) (hS : ∀ b, S b → b < w.heap.size) (h : BtIs S w x t) : ∀ W, W = ((w.alloc (.cells (tvcell t x).toArray 32)).alloc (.cells M.toArray e)).alloc (.cells zTV.toArray 32) →
    TBx S (fun b => b = w.heap.size ∨ b = w.heap.size + 1 ∨ b = w.heap.size + 1 + 1) w w.heap.size (w.heap.size + 1 + 1) W x t ∧ Blk W (w.heap.size + 1) e M ∧ W.heap.size = w.heap.size + 1 + 1 + 1 := by
  intro W hW
  obtain ⟨V, hV⟩ : ∃ V, V = (w.alloc (.cells (tvcell t x).toArray 32)).alloc (.cells M.toArray e) := ⟨_, rfl⟩
  obtain ⟨bl, h1, h2⟩ := two_lits w _ _ V hV
  have hz : V.heap.size = w.heap.size + 1 + 1 := by rw [hV, World.size_alloc, World.size_alloc]
  rw [← hV] at hW
  have b2 : Below V.heap.size V W := by rw [hW]; exact below_lit _ _
  have hz2 : W.heap.size = w.heap.size + 1 + 1 + 1 := by rw [hW, World.size_alloc, hz]
  have hr : Blk W (w.heap.size + 1 + 1) 32 zTV := by
    have := heap_alloc_new V (.cells zTV.toArray 32)
    rw [← hW, hz] at this
    exact this
  have bw := bl.trans (b2.mono bl.size)
  exact ⟨⟨hS, bw, Nat.le_refl _, by omega, by omega, .inl rfl, .inr (.inr rfl), fun b q => by omega, h1.below b2, hr, (h.keep (Kp.below bw hS)).mono (fun b q => .inl q)⟩, h2.below b2, hz2⟩
set_option maxRecDepth 100000 in
set_option maxHeartbeats 16000000 in
theorem rstep_any (S : Nat → Prop) (x : TV) (t : Bt) (dv : DV) (d : Dd) (w : World) (hS : ∀ b, S b → b < w.heap.size) (h : BtIs S w x t) (hd : DdIs S w dv d) (hb : btl t + ddl d ≤ 30000) (hs : d.s.length ≤ 2000000) :
    Calls Tryd.prog 12 #[.agg (tvcell t x).toArray, .agg (dcell dv).toArray] w (ClQ S (bStep t d) w) := by
  obtain ⟨W0, hW0⟩ : ∃ W, W = ((w.alloc (.cells (tvcell t x).toArray 32)).alloc (.cells (dcell dv).toArray 43)).alloc (.cells zTV.toArray 32) := ⟨_, rfl⟩
  obtain ⟨T0, kN, hz⟩ := TBx.start3g (dcell dv) 43 hS h W0 hW0
  obtain ⟨X, hX⟩ : ∃ X : Nat → Prop, X = (fun b => b = w.heap.size ∨ b = w.heap.size + 1 ∨ b = w.heap.size + 1 + 1) := ⟨_, rfl⟩
  rw [← hX] at T0
  clear hX
  have hd0 := (hd.keep (Kp.below T0.bel hS)).mono (T := Fp S X w W0) (fun b q => Or.inl q)
  have hbt0 : btl t = nlL t.kids + nlL t.opn + t.text.length := rfl
  have hdd : ddl d = 2 + d.g.length + d.l.length + nlN d.x := rfl
  obtain ⟨⟨a1, a2, a3⟩, ⟨b1, b2, b3⟩, ⟨e1, e2, e3⟩⟩ := x
  obtain ⟨dk, ⟨s1, s2, s3⟩, ⟨xk, xl, xn, ⟨t1, t2, t3⟩, ⟨k1, k2, k3⟩, ⟨r1, r2, r3⟩, xc, ⟨q1, q2, q3⟩, xb, xa⟩, dn, ⟨l1, l2, l3⟩, ⟨g1, g2, g3⟩⟩ := dv
  have ek := hd.kind
  have en := hd.n
  simp only at ek en
  subst ek en
  have HT0 := Lib.hid T0
  have HW0 := Lib.hid hW0
  have HKN := Lib.hid kN
  have HD := Lib.hid hd0
  simp only [zTV] at HW0
  simp only [dcell, pv] at HKN
  obtain ⟨dk, hdk⟩ : ∃ q, d.kind = q := ⟨_, rfl⟩
  obtain ⟨dn, hdn⟩ : ∃ q, d.n = q := ⟨_, rfl⟩
  have HDK := Lib.hid hdk
  have HDN := Lib.hid hdn
  rw [hdk, hdn] at HKN
  have m0 : W0.cell? ⟨w.heap.size + 1, 0, none⟩ = some (.int .i64 dk) := HKN.out.cell 0
  have m1 : W0.cell? ⟨w.heap.size + 1, 1, none⟩ = some (.slice s1 s2 s3) := HKN.out.cell 1
  have m2 : W0.cell? ⟨w.heap.size + 1, 2, none⟩ = some (.int .i64 xk) := HKN.out.cell 2
  have m3 : W0.cell? ⟨w.heap.size + 1, 3, none⟩ = some (.int .i64 xl) := HKN.out.cell 3
  have m4 : W0.cell? ⟨w.heap.size + 1, 4, none⟩ = some (.int .i64 xn) := HKN.out.cell 4
  have m5 : W0.cell? ⟨w.heap.size + 1, 5, none⟩ = some (.slice t1 t2 t3) := HKN.out.cell 5
  have m6 : W0.cell? ⟨w.heap.size + 1, 6, none⟩ = some (.slice k1 k2 k3) := HKN.out.cell 6
  have m7 : W0.cell? ⟨w.heap.size + 1, 7, none⟩ = some (.slice r1 r2 r3) := HKN.out.cell 7
  have m8 : W0.cell? ⟨w.heap.size + 1, 8, none⟩ = some (.string ⟨xc.toArray⟩) := HKN.out.cell 8
  have m9 : W0.cell? ⟨w.heap.size + 1, 9, none⟩ = some (.slice q1 q2 q3) := HKN.out.cell 9
  have m10 : W0.cell? ⟨w.heap.size + 1, 10, none⟩ = some (.bool xb) := HKN.out.cell 10
  have m11 : W0.cell? ⟨w.heap.size + 1, 11, none⟩ = some (.bool xa) := HKN.out.cell 11
  have m12 : W0.cell? ⟨w.heap.size + 1, 12, none⟩ = some (.int .i64 dn) := HKN.out.cell 12
  have m13 : W0.cell? ⟨w.heap.size + 1, 13, none⟩ = some (.slice l1 l2 l3) := HKN.out.cell 13
  have m14 : W0.cell? ⟨w.heap.size + 1, 14, none⟩ = some (.slice g1 g2 g3) := HKN.out.cell 14
  have y0 : W0.cell? ⟨w.heap.size, 0, none⟩ = some (.string ⟨t.nm.a.toArray⟩) := T0.box.cell 0
  have y1 : W0.cell? ⟨w.heap.size, 1, none⟩ = some (.string ⟨t.nm.b.toArray⟩) := T0.box.cell 1
  have y2 : W0.cell? ⟨w.heap.size, 2, none⟩ = some (.string ⟨t.nm.c.toArray⟩) := T0.box.cell 2
  have y3 : W0.cell? ⟨w.heap.size, 3, none⟩ = some (.string ⟨t.nm.d.toArray⟩) := T0.box.cell 3
  have y4 : W0.cell? ⟨w.heap.size, 4, none⟩ = some (.slice a1 a2 a3) := T0.box.cell 4
  have y5 : W0.cell? ⟨w.heap.size, 5, none⟩ = some (.slice b1 b2 b3) := T0.box.cell 5
  have y6 : W0.cell? ⟨w.heap.size, 6, none⟩ = some (.slice e1 e2 e3) := T0.box.cell 6
  have y7 : W0.cell? ⟨w.heap.size, 7, none⟩ = some (.int .i64 t.line) := T0.box.cell 7
  have y8 : W0.cell? ⟨w.heap.size, 8, none⟩ = some (.bool t.has) := T0.box.cell 8
  clear T0 hW0 h hd hd0 hS kN hz hdk hdn
  go_enter Tryd.func12, Tryd.ntmps12
  go_upto_region 1 with fail
  rw [← HW0.out]
  clear HW0
  by_cases c1 : dk = 1
  · subst c1
    have e11 : ((1 : Int) == 1) = true := rfl
    have HEQ : Hid (bStep t d = ({ t with nm := ⟨nameAt d.s 0, nameAt d.s 1, nameAt d.s 2, nameAt d.s 3⟩ }, false)) := Lib.hid (by unfold bStep; rw [HDK.out, if_pos (show (1 : Int) = 1 by omega)])
    have HSS := Lib.hid HD.out.s
    obtain ⟨n0, hn0⟩ : ∃ q, nameAt d.s 0 = q := ⟨_, rfl⟩
    obtain ⟨n1, hn1⟩ : ∃ q, nameAt d.s 1 = q := ⟨_, rfl⟩
    obtain ⟨n2, hn2⟩ : ∃ q, nameAt d.s 2 = q := ⟨_, rfl⟩
    obtain ⟨n3, hn3⟩ : ∃ q, nameAt d.s 3 = q := ⟨_, rfl⟩
    rw [hn0, hn1, hn2, hn3] at HEQ
    clear m1 m2 m3 m4 m5 m6 m7 m8 m9 m10 m11 m12 m13 m14 y0 y1 y2 y3 y4 y5 y6 y7 y8
    have p1 : W0.cell? ⟨w.heap.size + 1, 1, none⟩ = some (.slice s1 s2 s3) := HKN.out.cell 1
    have HN0 := rname_any 0 d.s 0 (.slice s1 s2 s3) W0 (HSS.out.keep (fun b q => (show W0.heap[b]? = W0.heap[b]? from rfl))).1 hs (by omega)
    rw [hn0] at HN0
    simp only [Int.ofNat_eq_natCast, Int.cast_ofNat_Int] at HN0
    have HN := Lib.hid HN0
    clear HN0
    have p2 : W0.cell? ⟨w.heap.size, 0, none⟩ = some (.string ⟨t.nm.a.toArray⟩) := HT0.out.box.cell 0
    have p3 : W0.frozen? ⟨w.heap.size, 0, none⟩ = false := HT0.out.box.frozen (by simp [tvcell])
    go_wp2_with fail
    refine HN.out.mono ?_
    rintro e w3 ⟨rfl, hw3⟩
    have hw4 := hw3.symm
    clear hw3 HN
    subst hw4
    go_upto_region 4 with fail
    obtain ⟨V0, hV⟩ : ∃ Y, Y = W0.setCell ⟨w.heap.size, 0, none⟩ (.string ⟨n0.toArray⟩) := ⟨_, rfl⟩
    have TN := HT0.out.field 0 (.string ⟨n0.toArray⟩) (t' := { t with nm := ⟨n0, t.nm.b, t.nm.c, t.nm.d⟩ }) (x' := ⟨(a1, a2, a3), (b1, b2, b3), (e1, e2, e3)⟩) rfl ⟨HT0.out.bt.kids, HT0.out.bt.opn, HT0.out.bt.text⟩
    have KN' := Blk.other HKN.out (show w.heap.size + 1 ≠ w.heap.size by omega) 0 (.string ⟨n0.toArray⟩)
    have HKP1 : Hid (∀ b, Fp S X w W0 b → (W0.setCell ⟨w.heap.size, 0, none⟩ (.string ⟨n0.toArray⟩)).heap[b]? = W0.heap[b]?) := Lib.hid (fun b q => (Below.heap_setCell W0 ⟨w.heap.size, 0, none⟩ _ b (Fp.ne HT0.out.hS HT0.out.Xo HT0.out.lo b q)))
    rw [← hV] at TN KN' HKP1
    rw [← hV]
    have TV0 := Lib.hid TN
    have KV0 := Lib.hid KN'
    clear hV TN KN' p1 p2 p3
    have p1 : V0.cell? ⟨w.heap.size + 1, 1, none⟩ = some (.slice s1 s2 s3) := KV0.out.cell 1
    have HN0 := rname_any 0 d.s 1 (.slice s1 s2 s3) V0 (HSS.out.keep (fun b q => (show V0.heap[b]? = W0.heap[b]? from HKP1.out b q))).1 hs (by omega)
    rw [hn1] at HN0
    simp only [Int.ofNat_eq_natCast, Int.cast_ofNat_Int] at HN0
    have HN := Lib.hid HN0
    clear HN0
    have p2 : V0.cell? ⟨w.heap.size, 1, none⟩ = some (.string ⟨t.nm.b.toArray⟩) := TV0.out.box.cell 1
    have p3 : V0.frozen? ⟨w.heap.size, 1, none⟩ = false := TV0.out.box.frozen (by simp [tvcell])
    go_wp2_with fail
    refine HN.out.mono ?_
    rintro e w3 ⟨rfl, hw3⟩
    have hw4 := hw3.symm
    clear hw3 HN
    subst hw4
    go_upto_region 5 with fail
    obtain ⟨V1, hV⟩ : ∃ Y, Y = V0.setCell ⟨w.heap.size, 1, none⟩ (.string ⟨n1.toArray⟩) := ⟨_, rfl⟩
    have TN := TV0.out.field 1 (.string ⟨n1.toArray⟩) (t' := { t with nm := ⟨n0, n1, t.nm.c, t.nm.d⟩ }) (x' := ⟨(a1, a2, a3), (b1, b2, b3), (e1, e2, e3)⟩) rfl ⟨TV0.out.bt.kids, TV0.out.bt.opn, TV0.out.bt.text⟩
    have KN' := Blk.other KV0.out (show w.heap.size + 1 ≠ w.heap.size by omega) 1 (.string ⟨n1.toArray⟩)
    have HKP2 : Hid (∀ b, Fp S X w W0 b → (V0.setCell ⟨w.heap.size, 1, none⟩ (.string ⟨n1.toArray⟩)).heap[b]? = W0.heap[b]?) := Lib.hid (fun b q => (Below.heap_setCell V0 ⟨w.heap.size, 1, none⟩ _ b (Fp.ne HT0.out.hS HT0.out.Xo HT0.out.lo b q)).trans (HKP1.out b q))
    rw [← hV] at TN KN' HKP2
    rw [← hV]
    have TV1 := Lib.hid TN
    have KV1 := Lib.hid KN'
    clear hV TN KN' p1 p2 p3
    have p1 : V1.cell? ⟨w.heap.size + 1, 1, none⟩ = some (.slice s1 s2 s3) := KV1.out.cell 1
    have HN0 := rname_any 0 d.s 2 (.slice s1 s2 s3) V1 (HSS.out.keep (fun b q => (show V1.heap[b]? = W0.heap[b]? from HKP2.out b q))).1 hs (by omega)
    rw [hn2] at HN0
    simp only [Int.ofNat_eq_natCast, Int.cast_ofNat_Int] at HN0
    have HN := Lib.hid HN0
    clear HN0
    have p2 : V1.cell? ⟨w.heap.size, 2, none⟩ = some (.string ⟨t.nm.c.toArray⟩) := TV1.out.box.cell 2
    have p3 : V1.frozen? ⟨w.heap.size, 2, none⟩ = false := TV1.out.box.frozen (by simp [tvcell])
    go_wp2_with fail
    refine HN.out.mono ?_
    rintro e w3 ⟨rfl, hw3⟩
    have hw4 := hw3.symm
    clear hw3 HN
    subst hw4
    go_upto_region 6 with fail
    obtain ⟨V2, hV⟩ : ∃ Y, Y = V1.setCell ⟨w.heap.size, 2, none⟩ (.string ⟨n2.toArray⟩) := ⟨_, rfl⟩
    have TN := TV1.out.field 2 (.string ⟨n2.toArray⟩) (t' := { t with nm := ⟨n0, n1, n2, t.nm.d⟩ }) (x' := ⟨(a1, a2, a3), (b1, b2, b3), (e1, e2, e3)⟩) rfl ⟨TV1.out.bt.kids, TV1.out.bt.opn, TV1.out.bt.text⟩
    have KN' := Blk.other KV1.out (show w.heap.size + 1 ≠ w.heap.size by omega) 2 (.string ⟨n2.toArray⟩)
    have HKP3 : Hid (∀ b, Fp S X w W0 b → (V1.setCell ⟨w.heap.size, 2, none⟩ (.string ⟨n2.toArray⟩)).heap[b]? = W0.heap[b]?) := Lib.hid (fun b q => (Below.heap_setCell V1 ⟨w.heap.size, 2, none⟩ _ b (Fp.ne HT0.out.hS HT0.out.Xo HT0.out.lo b q)).trans (HKP2.out b q))
    rw [← hV] at TN KN' HKP3
    rw [← hV]
    have TV2 := Lib.hid TN
    have KV2 := Lib.hid KN'
    clear hV TN KN' p1 p2 p3
    have p1 : V2.cell? ⟨w.heap.size + 1, 1, none⟩ = some (.slice s1 s2 s3) := KV2.out.cell 1
    have HN0 := rname_any 0 d.s 3 (.slice s1 s2 s3) V2 (HSS.out.keep (fun b q => (show V2.heap[b]? = W0.heap[b]? from HKP3.out b q))).1 hs (by omega)
    rw [hn3] at HN0
    simp only [Int.ofNat_eq_natCast, Int.cast_ofNat_Int] at HN0
    have HN := Lib.hid HN0
    clear HN0
    have p2 : V2.cell? ⟨w.heap.size, 3, none⟩ = some (.string ⟨t.nm.d.toArray⟩) := TV2.out.box.cell 3
    have p3 : V2.frozen? ⟨w.heap.size, 3, none⟩ = false := TV2.out.box.frozen (by simp [tvcell])
    go_wp2_with fail
    refine HN.out.mono ?_
    rintro e w3 ⟨rfl, hw3⟩
    have hw4 := hw3.symm
    clear hw3 HN
    subst hw4
    go_upto_region 7 with fail
    obtain ⟨V3, hV⟩ : ∃ Y, Y = V2.setCell ⟨w.heap.size, 3, none⟩ (.string ⟨n3.toArray⟩) := ⟨_, rfl⟩
    have TN := TV2.out.field 3 (.string ⟨n3.toArray⟩) (t' := { t with nm := ⟨n0, n1, n2, n3⟩ }) (x' := ⟨(a1, a2, a3), (b1, b2, b3), (e1, e2, e3)⟩) rfl ⟨TV2.out.bt.kids, TV2.out.bt.opn, TV2.out.bt.text⟩
    have KN' := Blk.other KV2.out (show w.heap.size + 1 ≠ w.heap.size by omega) 3 (.string ⟨n3.toArray⟩)
    have HKP4 : Hid (∀ b, Fp S X w W0 b → (V2.setCell ⟨w.heap.size, 3, none⟩ (.string ⟨n3.toArray⟩)).heap[b]? = W0.heap[b]?) := Lib.hid (fun b q => (Below.heap_setCell V2 ⟨w.heap.size, 3, none⟩ _ b (Fp.ne HT0.out.hS HT0.out.Xo HT0.out.lo b q)).trans (HKP3.out b q))
    rw [← hV] at TN KN' HKP4
    rw [← hV]
    have TV3 := Lib.hid TN
    have KV3 := Lib.hid KN'
    clear hV TN KN' p1 p2 p3
    have y0 : V3.cell? ⟨w.heap.size, 0, none⟩ = some (.string ⟨n0.toArray⟩) := TV3.out.box.cell 0
    have y1 : V3.cell? ⟨w.heap.size, 1, none⟩ = some (.string ⟨n1.toArray⟩) := TV3.out.box.cell 1
    have y2 : V3.cell? ⟨w.heap.size, 2, none⟩ = some (.string ⟨n2.toArray⟩) := TV3.out.box.cell 2
    have y3 : V3.cell? ⟨w.heap.size, 3, none⟩ = some (.string ⟨n3.toArray⟩) := TV3.out.box.cell 3
    have y4 : V3.cell? ⟨w.heap.size, 4, none⟩ = some (.slice a1 a2 a3) := TV3.out.box.cell 4
    have y5 : V3.cell? ⟨w.heap.size, 5, none⟩ = some (.slice b1 b2 b3) := TV3.out.box.cell 5
    have y6 : V3.cell? ⟨w.heap.size, 6, none⟩ = some (.slice e1 e2 e3) := TV3.out.box.cell 6
    have y7 : V3.cell? ⟨w.heap.size, 7, none⟩ = some (.int .i64 t.line) := TV3.out.box.cell 7
    have y8 : V3.cell? ⟨w.heap.size, 8, none⟩ = some (.bool t.has) := TV3.out.box.cell 8
    have z0 : V3.cell? ⟨w.heap.size + 1 + 1, 0, none⟩ = some (.string ⟨#[]⟩) := TV3.out.res.cell 0
    have z1 : V3.cell? ⟨w.heap.size + 1 + 1, 1, none⟩ = some (.string ⟨#[]⟩) := TV3.out.res.cell 1
    have z2 : V3.cell? ⟨w.heap.size + 1 + 1, 2, none⟩ = some (.string ⟨#[]⟩) := TV3.out.res.cell 2
    have z3 : V3.cell? ⟨w.heap.size + 1 + 1, 3, none⟩ = some (.string ⟨#[]⟩) := TV3.out.res.cell 3
    have z4 : V3.cell? ⟨w.heap.size + 1 + 1, 4, none⟩ = some (.slice none 0 0) := TV3.out.res.cell 4
    have z5 : V3.cell? ⟨w.heap.size + 1 + 1, 5, none⟩ = some (.slice none 0 0) := TV3.out.res.cell 5
    have z6 : V3.cell? ⟨w.heap.size + 1 + 1, 6, none⟩ = some (.slice none 0 0) := TV3.out.res.cell 6
    have z7 : V3.cell? ⟨w.heap.size + 1 + 1, 7, none⟩ = some (.int .i64 0) := TV3.out.res.cell 7
    have z8 : V3.cell? ⟨w.heap.size + 1 + 1, 8, none⟩ = some (.bool false) := TV3.out.res.cell 8
    have v0 : V3.frozen? ⟨w.heap.size + 1 + 1, 0, none⟩ = false := TV3.out.res.frozen (by simp [zTV])
    have v1 : V3.frozen? ⟨w.heap.size + 1 + 1, 1, none⟩ = false := TV3.out.res.frozen (by simp [zTV])
    have v2 : V3.frozen? ⟨w.heap.size + 1 + 1, 2, none⟩ = false := TV3.out.res.frozen (by simp [zTV])
    have v3 : V3.frozen? ⟨w.heap.size + 1 + 1, 3, none⟩ = false := TV3.out.res.frozen (by simp [zTV])
    have v4 : V3.frozen? ⟨w.heap.size + 1 + 1, 4, none⟩ = false := TV3.out.res.frozen (by simp [zTV])
    have v5 : V3.frozen? ⟨w.heap.size + 1 + 1, 5, none⟩ = false := TV3.out.res.frozen (by simp [zTV])
    have v6 : V3.frozen? ⟨w.heap.size + 1 + 1, 6, none⟩ = false := TV3.out.res.frozen (by simp [zTV])
    have v7 : V3.frozen? ⟨w.heap.size + 1 + 1, 7, none⟩ = false := TV3.out.res.frozen (by simp [zTV])
    have v8 : V3.frozen? ⟨w.heap.size + 1 + 1, 8, none⟩ = false := TV3.out.res.frozen (by simp [zTV])
    go_wp2_with fail
    have hF := TV3.out.fin
    have hblk := hF.2.2
    have k0' := hblk.cell 0
    have k1' := hblk.cell 1
    have k2' := hblk.cell 2
    have k3' := hblk.cell 3
    have k4' := hblk.cell 4
    have k5' := hblk.cell 5
    have k6' := hblk.cell 6
    have k7' := hblk.cell 7
    have k8' := hblk.cell 8
    unfold set9 at k0' k1' k2' k3' k4' k5' k6' k7' k8'
    simp [tvcell, pv] at k0' k1' k2' k3' k4' k5' k6' k7' k8'
    refine bodyPost_ret (v := .tuple #[.agg #[.string ⟨n0.toArray⟩, .string ⟨n1.toArray⟩, .string ⟨n2.toArray⟩, .string ⟨n3.toArray⟩, .slice a1 a2 a3, .slice b1 b2 b3, .slice e1 e2 e3, .int .i64 t.line, .bool t.has], .bool false]) (by simp [results, Tryd.results12, go_sem, k0', k1', k2', k3', k4', k5', k6', k7', k8']) rfl ?_
    exact (by rw [HEQ.out]; exact ⟨_, rfl, hF.1, hF.2.1⟩)
  have d1 : (dk == 1) = false := beq_eq_false_iff_ne.2 c1
  by_cases c2 : dk = 2
  · subst c2
    have e21 : ((2 : Int) == 1) = false := rfl
    have e22 : ((2 : Int) == 2) = true := rfl
    have HQ0 := ropen_any (Fp S X w W0) ⟨(a1, a2, a3), (b1, b2, b3), (e1, e2, e3)⟩ t ⟨xk, xl, xn, (t1, t2, t3), (k1, k2, k3), (r1, r2, r3), xc, (q1, q2, q3), xb, xa⟩ d.x W0 HT0.out.inn HT0.out.bt HD.out.x (by omega)
    obtain ⟨tq, htq⟩ : ∃ q, bOpen t d.x = q := ⟨_, rfl⟩
    rw [htq] at HQ0
    have HEQ : Hid (bStep t d = (tq, false)) := Lib.hid (by unfold bStep; rw [HDK.out, if_neg (show ¬ (2 : Int) = 1 by omega), if_pos (show (2 : Int) = 2 by omega), ← htq])
    unfold BtQ at HQ0
    simp only [tvcell, ncell, pv] at HQ0
    have HQ := Lib.hid HQ0
    clear HQ0 htq
    go_wp2_with fail
    refine HQ.out.mono ?_
    rintro e wq ⟨⟨⟨h1, h2, h3⟩, ⟨i1, i2, i3⟩, ⟨j1, j2, j3⟩⟩, rfl, hbt, hbq⟩
    simp only [tvcell, pv]
    have TG := Lib.hid (HT0.out.keep hbq)
    have hbt' := Lib.hid (hbt.mono (Fp.mo HT0.out.bel.size HT0.out.hX hbq.size))
    clear hbt hbq HQ y0 y1 y2 y3 y4 y5 y6 y7 y8 m0 m1 m2 m3 m4 m5 m6 m7 m8 m9 m10 m11 m12 m13 m14
    have z0 : wq.cell? ⟨w.heap.size + 1 + 1, 0, none⟩ = some (.string ⟨#[]⟩) := TG.out.res.cell 0
    have z1 : wq.cell? ⟨w.heap.size + 1 + 1, 1, none⟩ = some (.string ⟨#[]⟩) := TG.out.res.cell 1
    have z2 : wq.cell? ⟨w.heap.size + 1 + 1, 2, none⟩ = some (.string ⟨#[]⟩) := TG.out.res.cell 2
    have z3 : wq.cell? ⟨w.heap.size + 1 + 1, 3, none⟩ = some (.string ⟨#[]⟩) := TG.out.res.cell 3
    have z4 : wq.cell? ⟨w.heap.size + 1 + 1, 4, none⟩ = some (.slice none 0 0) := TG.out.res.cell 4
    have z5 : wq.cell? ⟨w.heap.size + 1 + 1, 5, none⟩ = some (.slice none 0 0) := TG.out.res.cell 5
    have z6 : wq.cell? ⟨w.heap.size + 1 + 1, 6, none⟩ = some (.slice none 0 0) := TG.out.res.cell 6
    have z7 : wq.cell? ⟨w.heap.size + 1 + 1, 7, none⟩ = some (.int .i64 0) := TG.out.res.cell 7
    have z8 : wq.cell? ⟨w.heap.size + 1 + 1, 8, none⟩ = some (.bool false) := TG.out.res.cell 8
    have v0 : wq.frozen? ⟨w.heap.size + 1 + 1, 0, none⟩ = false := TG.out.res.frozen (by simp [zTV])
    have v1 : wq.frozen? ⟨w.heap.size + 1 + 1, 1, none⟩ = false := TG.out.res.frozen (by simp [zTV])
    have v2 : wq.frozen? ⟨w.heap.size + 1 + 1, 2, none⟩ = false := TG.out.res.frozen (by simp [zTV])
    have v3 : wq.frozen? ⟨w.heap.size + 1 + 1, 3, none⟩ = false := TG.out.res.frozen (by simp [zTV])
    have v4 : wq.frozen? ⟨w.heap.size + 1 + 1, 4, none⟩ = false := TG.out.res.frozen (by simp [zTV])
    have v5 : wq.frozen? ⟨w.heap.size + 1 + 1, 5, none⟩ = false := TG.out.res.frozen (by simp [zTV])
    have v6 : wq.frozen? ⟨w.heap.size + 1 + 1, 6, none⟩ = false := TG.out.res.frozen (by simp [zTV])
    have v7 : wq.frozen? ⟨w.heap.size + 1 + 1, 7, none⟩ = false := TG.out.res.frozen (by simp [zTV])
    have v8 : wq.frozen? ⟨w.heap.size + 1 + 1, 8, none⟩ = false := TG.out.res.frozen (by simp [zTV])
    go_wp2_with fail
    have hF := TG.out.fin2 hbt'.out
    have hblk := hF.2.2
    have k0' := hblk.cell 0
    have k1' := hblk.cell 1
    have k2' := hblk.cell 2
    have k3' := hblk.cell 3
    have k4' := hblk.cell 4
    have k5' := hblk.cell 5
    have k6' := hblk.cell 6
    have k7' := hblk.cell 7
    have k8' := hblk.cell 8
    unfold set9 at k0' k1' k2' k3' k4' k5' k6' k7' k8'
    simp [tvcell, pv] at k0' k1' k2' k3' k4' k5' k6' k7' k8'
    refine bodyPost_ret (v := .tuple #[.agg #[.string ⟨tq.nm.a.toArray⟩, .string ⟨tq.nm.b.toArray⟩, .string ⟨tq.nm.c.toArray⟩, .string ⟨tq.nm.d.toArray⟩, .slice h1 h2 h3, .slice i1 i2 i3, .slice j1 j2 j3, .int .i64 tq.line, .bool tq.has], .bool false]) (by simp [results, Tryd.results12, go_sem, k0', k1', k2', k3', k4', k5', k6', k7', k8']) rfl ?_
    exact (by rw [HEQ.out]; exact ⟨_, rfl, hF.1, hF.2.1⟩)
  have d2 : (dk == 2) = false := beq_eq_false_iff_ne.2 c2
  by_cases c3 : dk = 3
  · subst c3
    have e31 : ((3 : Int) == 1) = false := rfl
    have e32 : ((3 : Int) == 2) = false := rfl
    have e33 : ((3 : Int) == 3) = true := rfl
    have HQ0 := rclose_any (Fp S X w W0) ⟨(a1, a2, a3), (b1, b2, b3), (e1, e2, e3)⟩ t dn W0 HT0.out.inn HT0.out.bt (by omega)
    obtain ⟨⟨tq, bq⟩, htq⟩ : ∃ q, bClose t dn = q := ⟨_, rfl⟩
    rw [htq] at HQ0
    have HEQ : Hid (bStep t d = (tq, bq)) := Lib.hid (by unfold bStep; rw [HDK.out, if_neg (show ¬ (3 : Int) = 1 by omega), if_neg (show ¬ (3 : Int) = 2 by omega), if_pos (show (3 : Int) = 3 by omega), ← htq, HDN.out])
    unfold ClQ at HQ0
    simp only [tvcell, ncell, pv] at HQ0
    have HQ := Lib.hid HQ0
    clear HQ0 htq
    go_wp2_with fail
    refine HQ.out.mono ?_
    rintro e wq ⟨⟨⟨h1, h2, h3⟩, ⟨i1, i2, i3⟩, ⟨j1, j2, j3⟩⟩, rfl, hbt, hbq⟩
    simp only [tvcell, pv]
    have TG := Lib.hid (HT0.out.keep hbq)
    have hbt' := Lib.hid (hbt.mono (Fp.mo HT0.out.bel.size HT0.out.hX hbq.size))
    clear hbt hbq HQ y0 y1 y2 y3 y4 y5 y6 y7 y8 m0 m1 m2 m3 m4 m5 m6 m7 m8 m9 m10 m11 m12 m13 m14
    have z0 : wq.cell? ⟨w.heap.size + 1 + 1, 0, none⟩ = some (.string ⟨#[]⟩) := TG.out.res.cell 0
    have z1 : wq.cell? ⟨w.heap.size + 1 + 1, 1, none⟩ = some (.string ⟨#[]⟩) := TG.out.res.cell 1
    have z2 : wq.cell? ⟨w.heap.size + 1 + 1, 2, none⟩ = some (.string ⟨#[]⟩) := TG.out.res.cell 2
    have z3 : wq.cell? ⟨w.heap.size + 1 + 1, 3, none⟩ = some (.string ⟨#[]⟩) := TG.out.res.cell 3
    have z4 : wq.cell? ⟨w.heap.size + 1 + 1, 4, none⟩ = some (.slice none 0 0) := TG.out.res.cell 4
    have z5 : wq.cell? ⟨w.heap.size + 1 + 1, 5, none⟩ = some (.slice none 0 0) := TG.out.res.cell 5
    have z6 : wq.cell? ⟨w.heap.size + 1 + 1, 6, none⟩ = some (.slice none 0 0) := TG.out.res.cell 6
    have z7 : wq.cell? ⟨w.heap.size + 1 + 1, 7, none⟩ = some (.int .i64 0) := TG.out.res.cell 7
    have z8 : wq.cell? ⟨w.heap.size + 1 + 1, 8, none⟩ = some (.bool false) := TG.out.res.cell 8
    have v0 : wq.frozen? ⟨w.heap.size + 1 + 1, 0, none⟩ = false := TG.out.res.frozen (by simp [zTV])
    have v1 : wq.frozen? ⟨w.heap.size + 1 + 1, 1, none⟩ = false := TG.out.res.frozen (by simp [zTV])
    have v2 : wq.frozen? ⟨w.heap.size + 1 + 1, 2, none⟩ = false := TG.out.res.frozen (by simp [zTV])
    have v3 : wq.frozen? ⟨w.heap.size + 1 + 1, 3, none⟩ = false := TG.out.res.frozen (by simp [zTV])
    have v4 : wq.frozen? ⟨w.heap.size + 1 + 1, 4, none⟩ = false := TG.out.res.frozen (by simp [zTV])
    have v5 : wq.frozen? ⟨w.heap.size + 1 + 1, 5, none⟩ = false := TG.out.res.frozen (by simp [zTV])
    have v6 : wq.frozen? ⟨w.heap.size + 1 + 1, 6, none⟩ = false := TG.out.res.frozen (by simp [zTV])
    have v7 : wq.frozen? ⟨w.heap.size + 1 + 1, 7, none⟩ = false := TG.out.res.frozen (by simp [zTV])
    have v8 : wq.frozen? ⟨w.heap.size + 1 + 1, 8, none⟩ = false := TG.out.res.frozen (by simp [zTV])
    go_wp2_with fail
    have hF := TG.out.fin2 hbt'.out
    have hblk := hF.2.2
    have k0' := hblk.cell 0
    have k1' := hblk.cell 1
    have k2' := hblk.cell 2
    have k3' := hblk.cell 3
    have k4' := hblk.cell 4
    have k5' := hblk.cell 5
    have k6' := hblk.cell 6
    have k7' := hblk.cell 7
    have k8' := hblk.cell 8
    unfold set9 at k0' k1' k2' k3' k4' k5' k6' k7' k8'
    simp [tvcell, pv] at k0' k1' k2' k3' k4' k5' k6' k7' k8'
    refine bodyPost_ret (v := .tuple #[.agg #[.string ⟨tq.nm.a.toArray⟩, .string ⟨tq.nm.b.toArray⟩, .string ⟨tq.nm.c.toArray⟩, .string ⟨tq.nm.d.toArray⟩, .slice h1 h2 h3, .slice i1 i2 i3, .slice j1 j2 j3, .int .i64 tq.line, .bool tq.has], .bool bq]) (by simp [results, Tryd.results12, go_sem, k0', k1', k2', k3', k4', k5', k6', k7', k8']) rfl ?_
    exact (by rw [HEQ.out]; exact ⟨_, rfl, hF.1, hF.2.1⟩)
  have d3 : (dk == 3) = false := beq_eq_false_iff_ne.2 c3
  by_cases c4 : dk = 4
  · subst c4
    have e41 : ((4 : Int) == 1) = false := rfl
    have e42 : ((4 : Int) == 2) = false := rfl
    have e43 : ((4 : Int) == 3) = false := rfl
    have e44 : ((4 : Int) == 4) = true := rfl
    have HQ0 := rshut_any (Fp S X w W0) ⟨(a1, a2, a3), (b1, b2, b3), (e1, e2, e3)⟩ t d.l (.slice l1 l2 l3) W0 HT0.out.inn HT0.out.bt HD.out.l (by omega) (by omega)
    obtain ⟨tq, htq⟩ : ∃ q, bShut t d.l = q := ⟨_, rfl⟩
    rw [htq] at HQ0
    have HEQ : Hid (bStep t d = (tq, false)) := Lib.hid (by unfold bStep; rw [HDK.out, if_neg (show ¬ (4 : Int) = 1 by omega), if_neg (show ¬ (4 : Int) = 2 by omega), if_neg (show ¬ (4 : Int) = 3 by omega), if_pos (show (4 : Int) = 4 by omega), ← htq])
    unfold BtQ at HQ0
    simp only [tvcell, ncell, pv] at HQ0
    have HQ := Lib.hid HQ0
    clear HQ0 htq
    go_wp2_with fail
    refine HQ.out.mono ?_
    rintro e wq ⟨⟨⟨h1, h2, h3⟩, ⟨i1, i2, i3⟩, ⟨j1, j2, j3⟩⟩, rfl, hbt, hbq⟩
    simp only [tvcell, pv]
    have TG := Lib.hid (HT0.out.keep hbq)
    have hbt' := Lib.hid (hbt.mono (Fp.mo HT0.out.bel.size HT0.out.hX hbq.size))
    clear hbt hbq HQ y0 y1 y2 y3 y4 y5 y6 y7 y8 m0 m1 m2 m3 m4 m5 m6 m7 m8 m9 m10 m11 m12 m13 m14
    have z0 : wq.cell? ⟨w.heap.size + 1 + 1, 0, none⟩ = some (.string ⟨#[]⟩) := TG.out.res.cell 0
    have z1 : wq.cell? ⟨w.heap.size + 1 + 1, 1, none⟩ = some (.string ⟨#[]⟩) := TG.out.res.cell 1
    have z2 : wq.cell? ⟨w.heap.size + 1 + 1, 2, none⟩ = some (.string ⟨#[]⟩) := TG.out.res.cell 2
    have z3 : wq.cell? ⟨w.heap.size + 1 + 1, 3, none⟩ = some (.string ⟨#[]⟩) := TG.out.res.cell 3
    have z4 : wq.cell? ⟨w.heap.size + 1 + 1, 4, none⟩ = some (.slice none 0 0) := TG.out.res.cell 4
    have z5 : wq.cell? ⟨w.heap.size + 1 + 1, 5, none⟩ = some (.slice none 0 0) := TG.out.res.cell 5
    have z6 : wq.cell? ⟨w.heap.size + 1 + 1, 6, none⟩ = some (.slice none 0 0) := TG.out.res.cell 6
    have z7 : wq.cell? ⟨w.heap.size + 1 + 1, 7, none⟩ = some (.int .i64 0) := TG.out.res.cell 7
    have z8 : wq.cell? ⟨w.heap.size + 1 + 1, 8, none⟩ = some (.bool false) := TG.out.res.cell 8
    have v0 : wq.frozen? ⟨w.heap.size + 1 + 1, 0, none⟩ = false := TG.out.res.frozen (by simp [zTV])
    have v1 : wq.frozen? ⟨w.heap.size + 1 + 1, 1, none⟩ = false := TG.out.res.frozen (by simp [zTV])
    have v2 : wq.frozen? ⟨w.heap.size + 1 + 1, 2, none⟩ = false := TG.out.res.frozen (by simp [zTV])
    have v3 : wq.frozen? ⟨w.heap.size + 1 + 1, 3, none⟩ = false := TG.out.res.frozen (by simp [zTV])
    have v4 : wq.frozen? ⟨w.heap.size + 1 + 1, 4, none⟩ = false := TG.out.res.frozen (by simp [zTV])
    have v5 : wq.frozen? ⟨w.heap.size + 1 + 1, 5, none⟩ = false := TG.out.res.frozen (by simp [zTV])
    have v6 : wq.frozen? ⟨w.heap.size + 1 + 1, 6, none⟩ = false := TG.out.res.frozen (by simp [zTV])
    have v7 : wq.frozen? ⟨w.heap.size + 1 + 1, 7, none⟩ = false := TG.out.res.frozen (by simp [zTV])
    have v8 : wq.frozen? ⟨w.heap.size + 1 + 1, 8, none⟩ = false := TG.out.res.frozen (by simp [zTV])
    go_wp2_with fail
    have hF := TG.out.fin2 hbt'.out
    have hblk := hF.2.2
    have k0' := hblk.cell 0
    have k1' := hblk.cell 1
    have k2' := hblk.cell 2
    have k3' := hblk.cell 3
    have k4' := hblk.cell 4
    have k5' := hblk.cell 5
    have k6' := hblk.cell 6
    have k7' := hblk.cell 7
    have k8' := hblk.cell 8
    unfold set9 at k0' k1' k2' k3' k4' k5' k6' k7' k8'
    simp [tvcell, pv] at k0' k1' k2' k3' k4' k5' k6' k7' k8'
    refine bodyPost_ret (v := .tuple #[.agg #[.string ⟨tq.nm.a.toArray⟩, .string ⟨tq.nm.b.toArray⟩, .string ⟨tq.nm.c.toArray⟩, .string ⟨tq.nm.d.toArray⟩, .slice h1 h2 h3, .slice i1 i2 i3, .slice j1 j2 j3, .int .i64 tq.line, .bool tq.has], .bool false]) (by simp [results, Tryd.results12, go_sem, k0', k1', k2', k3', k4', k5', k6', k7', k8']) rfl ?_
    exact (by rw [HEQ.out]; exact ⟨_, rfl, hF.1, hF.2.1⟩)
  have d4 : (dk == 4) = false := beq_eq_false_iff_ne.2 c4
  by_cases c5 : dk = 5
  · subst c5
    have e51 : ((5 : Int) == 1) = false := rfl
    have e52 : ((5 : Int) == 2) = false := rfl
    have e53 : ((5 : Int) == 3) = false := rfl
    have e54 : ((5 : Int) == 4) = false := rfl
    have e55 : ((5 : Int) == 5) = true := rfl
    have HQ0 := rtext_any (Fp S X w W0) ⟨(a1, a2, a3), (b1, b2, b3), (e1, e2, e3)⟩ t d.g (.slice g1 g2 g3) dn W0 HT0.out.inn HT0.out.bt HD.out.g (by omega)
    obtain ⟨tq, htq⟩ : ∃ q, bText t d.g dn = q := ⟨_, rfl⟩
    rw [htq] at HQ0
    have HEQ : Hid (bStep t d = (tq, false)) := Lib.hid (by unfold bStep; rw [HDK.out, if_neg (show ¬ (5 : Int) = 1 by omega), if_neg (show ¬ (5 : Int) = 2 by omega), if_neg (show ¬ (5 : Int) = 3 by omega), if_neg (show ¬ (5 : Int) = 4 by omega), if_pos (show (5 : Int) = 5 by omega), ← htq]; rw [HDN.out])
    unfold BtQ at HQ0
    simp only [tvcell, ncell, pv] at HQ0
    have HQ := Lib.hid HQ0
    clear HQ0 htq
    go_wp2_with fail
    refine HQ.out.mono ?_
    rintro e wq ⟨⟨⟨h1, h2, h3⟩, ⟨i1, i2, i3⟩, ⟨j1, j2, j3⟩⟩, rfl, hbt, hbq⟩
    simp only [tvcell, pv]
    have TG := Lib.hid (HT0.out.keep hbq)
    have hbt' := Lib.hid (hbt.mono (Fp.mo HT0.out.bel.size HT0.out.hX hbq.size))
    clear hbt hbq HQ y0 y1 y2 y3 y4 y5 y6 y7 y8 m0 m1 m2 m3 m4 m5 m6 m7 m8 m9 m10 m11 m12 m13 m14
    have z0 : wq.cell? ⟨w.heap.size + 1 + 1, 0, none⟩ = some (.string ⟨#[]⟩) := TG.out.res.cell 0
    have z1 : wq.cell? ⟨w.heap.size + 1 + 1, 1, none⟩ = some (.string ⟨#[]⟩) := TG.out.res.cell 1
    have z2 : wq.cell? ⟨w.heap.size + 1 + 1, 2, none⟩ = some (.string ⟨#[]⟩) := TG.out.res.cell 2
    have z3 : wq.cell? ⟨w.heap.size + 1 + 1, 3, none⟩ = some (.string ⟨#[]⟩) := TG.out.res.cell 3
    have z4 : wq.cell? ⟨w.heap.size + 1 + 1, 4, none⟩ = some (.slice none 0 0) := TG.out.res.cell 4
    have z5 : wq.cell? ⟨w.heap.size + 1 + 1, 5, none⟩ = some (.slice none 0 0) := TG.out.res.cell 5
    have z6 : wq.cell? ⟨w.heap.size + 1 + 1, 6, none⟩ = some (.slice none 0 0) := TG.out.res.cell 6
    have z7 : wq.cell? ⟨w.heap.size + 1 + 1, 7, none⟩ = some (.int .i64 0) := TG.out.res.cell 7
    have z8 : wq.cell? ⟨w.heap.size + 1 + 1, 8, none⟩ = some (.bool false) := TG.out.res.cell 8
    have v0 : wq.frozen? ⟨w.heap.size + 1 + 1, 0, none⟩ = false := TG.out.res.frozen (by simp [zTV])
    have v1 : wq.frozen? ⟨w.heap.size + 1 + 1, 1, none⟩ = false := TG.out.res.frozen (by simp [zTV])
    have v2 : wq.frozen? ⟨w.heap.size + 1 + 1, 2, none⟩ = false := TG.out.res.frozen (by simp [zTV])
    have v3 : wq.frozen? ⟨w.heap.size + 1 + 1, 3, none⟩ = false := TG.out.res.frozen (by simp [zTV])
    have v4 : wq.frozen? ⟨w.heap.size + 1 + 1, 4, none⟩ = false := TG.out.res.frozen (by simp [zTV])
    have v5 : wq.frozen? ⟨w.heap.size + 1 + 1, 5, none⟩ = false := TG.out.res.frozen (by simp [zTV])
    have v6 : wq.frozen? ⟨w.heap.size + 1 + 1, 6, none⟩ = false := TG.out.res.frozen (by simp [zTV])
    have v7 : wq.frozen? ⟨w.heap.size + 1 + 1, 7, none⟩ = false := TG.out.res.frozen (by simp [zTV])
    have v8 : wq.frozen? ⟨w.heap.size + 1 + 1, 8, none⟩ = false := TG.out.res.frozen (by simp [zTV])
    go_wp2_with fail
    have hF := TG.out.fin2 hbt'.out
    have hblk := hF.2.2
    have k0' := hblk.cell 0
    have k1' := hblk.cell 1
    have k2' := hblk.cell 2
    have k3' := hblk.cell 3
    have k4' := hblk.cell 4
    have k5' := hblk.cell 5
    have k6' := hblk.cell 6
    have k7' := hblk.cell 7
    have k8' := hblk.cell 8
    unfold set9 at k0' k1' k2' k3' k4' k5' k6' k7' k8'
    simp [tvcell, pv] at k0' k1' k2' k3' k4' k5' k6' k7' k8'
    refine bodyPost_ret (v := .tuple #[.agg #[.string ⟨tq.nm.a.toArray⟩, .string ⟨tq.nm.b.toArray⟩, .string ⟨tq.nm.c.toArray⟩, .string ⟨tq.nm.d.toArray⟩, .slice h1 h2 h3, .slice i1 i2 i3, .slice j1 j2 j3, .int .i64 tq.line, .bool tq.has], .bool false]) (by simp [results, Tryd.results12, go_sem, k0', k1', k2', k3', k4', k5', k6', k7', k8']) rfl ?_
    exact (by rw [HEQ.out]; exact ⟨_, rfl, hF.1, hF.2.1⟩)
  have d5 : (dk == 5) = false := beq_eq_false_iff_ne.2 c5
  by_cases c6 : dk = 6
  · subst c6
    have e61 : ((6 : Int) == 1) = false := rfl
    have e62 : ((6 : Int) == 2) = false := rfl
    have e63 : ((6 : Int) == 3) = false := rfl
    have e64 : ((6 : Int) == 4) = false := rfl
    have e65 : ((6 : Int) == 5) = false := rfl
    have e66 : ((6 : Int) == 6) = true := rfl
    have HQ0 := rend_any (Fp S X w W0) ⟨(a1, a2, a3), (b1, b2, b3), (e1, e2, e3)⟩ t W0 HT0.out.inn HT0.out.bt (by omega)
    obtain ⟨tq, htq⟩ : ∃ q, bEnd t = q := ⟨_, rfl⟩
    rw [htq] at HQ0
    have HEQ : Hid (bStep t d = (tq, false)) := Lib.hid (by unfold bStep; rw [HDK.out, if_neg (show ¬ (6 : Int) = 1 by omega), if_neg (show ¬ (6 : Int) = 2 by omega), if_neg (show ¬ (6 : Int) = 3 by omega), if_neg (show ¬ (6 : Int) = 4 by omega), if_neg (show ¬ (6 : Int) = 5 by omega), if_pos (show (6 : Int) = 6 by omega), ← htq])
    unfold BtQ at HQ0
    simp only [tvcell, ncell, pv] at HQ0
    have HQ := Lib.hid HQ0
    clear HQ0 htq
    go_wp2_with fail
    refine HQ.out.mono ?_
    rintro e wq ⟨⟨⟨h1, h2, h3⟩, ⟨i1, i2, i3⟩, ⟨j1, j2, j3⟩⟩, rfl, hbt, hbq⟩
    simp only [tvcell, pv]
    have TG := Lib.hid (HT0.out.keep hbq)
    have hbt' := Lib.hid (hbt.mono (Fp.mo HT0.out.bel.size HT0.out.hX hbq.size))
    clear hbt hbq HQ y0 y1 y2 y3 y4 y5 y6 y7 y8 m0 m1 m2 m3 m4 m5 m6 m7 m8 m9 m10 m11 m12 m13 m14
    have z0 : wq.cell? ⟨w.heap.size + 1 + 1, 0, none⟩ = some (.string ⟨#[]⟩) := TG.out.res.cell 0
    have z1 : wq.cell? ⟨w.heap.size + 1 + 1, 1, none⟩ = some (.string ⟨#[]⟩) := TG.out.res.cell 1
    have z2 : wq.cell? ⟨w.heap.size + 1 + 1, 2, none⟩ = some (.string ⟨#[]⟩) := TG.out.res.cell 2
    have z3 : wq.cell? ⟨w.heap.size + 1 + 1, 3, none⟩ = some (.string ⟨#[]⟩) := TG.out.res.cell 3
    have z4 : wq.cell? ⟨w.heap.size + 1 + 1, 4, none⟩ = some (.slice none 0 0) := TG.out.res.cell 4
    have z5 : wq.cell? ⟨w.heap.size + 1 + 1, 5, none⟩ = some (.slice none 0 0) := TG.out.res.cell 5
    have z6 : wq.cell? ⟨w.heap.size + 1 + 1, 6, none⟩ = some (.slice none 0 0) := TG.out.res.cell 6
    have z7 : wq.cell? ⟨w.heap.size + 1 + 1, 7, none⟩ = some (.int .i64 0) := TG.out.res.cell 7
    have z8 : wq.cell? ⟨w.heap.size + 1 + 1, 8, none⟩ = some (.bool false) := TG.out.res.cell 8
    have v0 : wq.frozen? ⟨w.heap.size + 1 + 1, 0, none⟩ = false := TG.out.res.frozen (by simp [zTV])
    have v1 : wq.frozen? ⟨w.heap.size + 1 + 1, 1, none⟩ = false := TG.out.res.frozen (by simp [zTV])
    have v2 : wq.frozen? ⟨w.heap.size + 1 + 1, 2, none⟩ = false := TG.out.res.frozen (by simp [zTV])
    have v3 : wq.frozen? ⟨w.heap.size + 1 + 1, 3, none⟩ = false := TG.out.res.frozen (by simp [zTV])
    have v4 : wq.frozen? ⟨w.heap.size + 1 + 1, 4, none⟩ = false := TG.out.res.frozen (by simp [zTV])
    have v5 : wq.frozen? ⟨w.heap.size + 1 + 1, 5, none⟩ = false := TG.out.res.frozen (by simp [zTV])
    have v6 : wq.frozen? ⟨w.heap.size + 1 + 1, 6, none⟩ = false := TG.out.res.frozen (by simp [zTV])
    have v7 : wq.frozen? ⟨w.heap.size + 1 + 1, 7, none⟩ = false := TG.out.res.frozen (by simp [zTV])
    have v8 : wq.frozen? ⟨w.heap.size + 1 + 1, 8, none⟩ = false := TG.out.res.frozen (by simp [zTV])
    go_wp2_with fail
    have hF := TG.out.fin2 hbt'.out
    have hblk := hF.2.2
    have k0' := hblk.cell 0
    have k1' := hblk.cell 1
    have k2' := hblk.cell 2
    have k3' := hblk.cell 3
    have k4' := hblk.cell 4
    have k5' := hblk.cell 5
    have k6' := hblk.cell 6
    have k7' := hblk.cell 7
    have k8' := hblk.cell 8
    unfold set9 at k0' k1' k2' k3' k4' k5' k6' k7' k8'
    simp [tvcell, pv] at k0' k1' k2' k3' k4' k5' k6' k7' k8'
    refine bodyPost_ret (v := .tuple #[.agg #[.string ⟨tq.nm.a.toArray⟩, .string ⟨tq.nm.b.toArray⟩, .string ⟨tq.nm.c.toArray⟩, .string ⟨tq.nm.d.toArray⟩, .slice h1 h2 h3, .slice i1 i2 i3, .slice j1 j2 j3, .int .i64 tq.line, .bool tq.has], .bool false]) (by simp [results, Tryd.results12, go_sem, k0', k1', k2', k3', k4', k5', k6', k7', k8']) rfl ?_
    exact (by rw [HEQ.out]; exact ⟨_, rfl, hF.1, hF.2.1⟩)
  have d6 : (dk == 6) = false := beq_eq_false_iff_ne.2 c6
  have HQ0 := radd8_any (Fp S X w W0) ⟨(a1, a2, a3), (b1, b2, b3), (e1, e2, e3)⟩ t ⟨xk, xl, xn, (t1, t2, t3), (k1, k2, k3), (r1, r2, r3), xc, (q1, q2, q3), xb, xa⟩ d.x W0 HT0.out.inn HT0.out.bt HD.out.x (by omega)
  obtain ⟨tq, htq⟩ : ∃ q, bAdd t d.x = q := ⟨_, rfl⟩
  rw [htq] at HQ0
  have HEQ : Hid (bStep t d = (tq, false)) := Lib.hid (by unfold bStep; rw [HDK.out, if_neg c1, if_neg c2, if_neg c3, if_neg c4, if_neg c5, if_neg c6, ← htq])
  unfold BtQ at HQ0
  simp only [tvcell, ncell, pv] at HQ0
  have HQ := Lib.hid HQ0
  clear HQ0 htq
  go_wp2_with fail
  refine HQ.out.mono ?_
  rintro e wq ⟨⟨⟨h1, h2, h3⟩, ⟨i1, i2, i3⟩, ⟨j1, j2, j3⟩⟩, rfl, hbt, hbq⟩
  simp only [tvcell, pv]
  have TG := Lib.hid (HT0.out.keep hbq)
  have hbt' := Lib.hid (hbt.mono (Fp.mo HT0.out.bel.size HT0.out.hX hbq.size))
  clear hbt hbq HQ y0 y1 y2 y3 y4 y5 y6 y7 y8 m0 m1 m2 m3 m4 m5 m6 m7 m8 m9 m10 m11 m12 m13 m14
  have z0 : wq.cell? ⟨w.heap.size + 1 + 1, 0, none⟩ = some (.string ⟨#[]⟩) := TG.out.res.cell 0
  have z1 : wq.cell? ⟨w.heap.size + 1 + 1, 1, none⟩ = some (.string ⟨#[]⟩) := TG.out.res.cell 1
  have z2 : wq.cell? ⟨w.heap.size + 1 + 1, 2, none⟩ = some (.string ⟨#[]⟩) := TG.out.res.cell 2
  have z3 : wq.cell? ⟨w.heap.size + 1 + 1, 3, none⟩ = some (.string ⟨#[]⟩) := TG.out.res.cell 3
  have z4 : wq.cell? ⟨w.heap.size + 1 + 1, 4, none⟩ = some (.slice none 0 0) := TG.out.res.cell 4
  have z5 : wq.cell? ⟨w.heap.size + 1 + 1, 5, none⟩ = some (.slice none 0 0) := TG.out.res.cell 5
  have z6 : wq.cell? ⟨w.heap.size + 1 + 1, 6, none⟩ = some (.slice none 0 0) := TG.out.res.cell 6
  have z7 : wq.cell? ⟨w.heap.size + 1 + 1, 7, none⟩ = some (.int .i64 0) := TG.out.res.cell 7
  have z8 : wq.cell? ⟨w.heap.size + 1 + 1, 8, none⟩ = some (.bool false) := TG.out.res.cell 8
  have v0 : wq.frozen? ⟨w.heap.size + 1 + 1, 0, none⟩ = false := TG.out.res.frozen (by simp [zTV])
  have v1 : wq.frozen? ⟨w.heap.size + 1 + 1, 1, none⟩ = false := TG.out.res.frozen (by simp [zTV])
  have v2 : wq.frozen? ⟨w.heap.size + 1 + 1, 2, none⟩ = false := TG.out.res.frozen (by simp [zTV])
  have v3 : wq.frozen? ⟨w.heap.size + 1 + 1, 3, none⟩ = false := TG.out.res.frozen (by simp [zTV])
  have v4 : wq.frozen? ⟨w.heap.size + 1 + 1, 4, none⟩ = false := TG.out.res.frozen (by simp [zTV])
  have v5 : wq.frozen? ⟨w.heap.size + 1 + 1, 5, none⟩ = false := TG.out.res.frozen (by simp [zTV])
  have v6 : wq.frozen? ⟨w.heap.size + 1 + 1, 6, none⟩ = false := TG.out.res.frozen (by simp [zTV])
  have v7 : wq.frozen? ⟨w.heap.size + 1 + 1, 7, none⟩ = false := TG.out.res.frozen (by simp [zTV])
  have v8 : wq.frozen? ⟨w.heap.size + 1 + 1, 8, none⟩ = false := TG.out.res.frozen (by simp [zTV])
  go_wp2_with fail
  have hF := TG.out.fin2 hbt'.out
  have hblk := hF.2.2
  have k0' := hblk.cell 0
  have k1' := hblk.cell 1
  have k2' := hblk.cell 2
  have k3' := hblk.cell 3
  have k4' := hblk.cell 4
  have k5' := hblk.cell 5
  have k6' := hblk.cell 6
  have k7' := hblk.cell 7
  have k8' := hblk.cell 8
  unfold set9 at k0' k1' k2' k3' k4' k5' k6' k7' k8'
  simp [tvcell, pv] at k0' k1' k2' k3' k4' k5' k6' k7' k8'
  refine bodyPost_ret (v := .tuple #[.agg #[.string ⟨tq.nm.a.toArray⟩, .string ⟨tq.nm.b.toArray⟩, .string ⟨tq.nm.c.toArray⟩, .string ⟨tq.nm.d.toArray⟩, .slice h1 h2 h3, .slice i1 i2 i3, .slice j1 j2 j3, .int .i64 tq.line, .bool tq.has], .bool false]) (by simp [results, Tryd.results12, go_sem, k0', k1', k2', k3', k4', k5', k6', k7', k8']) rfl ?_
  exact (by rw [HEQ.out]; exact ⟨_, rfl, hF.1, hF.2.1⟩)
end Go.Proofs.YtpccjgoeoeehoaaDoor
namespace Go.Proofs.YtpccjgoeoeehoaaDoor
open Go.RowKit
theorem dcell_len (v : DV) : (dcell v).length = 15 := rfl
def DosS (S : Nat → Prop) (w : World) (v : Value) (l : List Dd) : Prop := ∃ L : List DV, L.length = l.length ∧ FsS S 15 dcell w v L ∧ ∀ (i : Nat) x y, L[i]? = some x → l[i]? = some y → DdIs S w x y
theorem DosS.keep {S : Nat → Prop} {w w' : World} {v : Value} {l : List Dd} (h : DosS S w v l) (k : Kp S w w') : DosS S w' v l := by
  obtain ⟨L, h1, h2, h3⟩ := h
  exact ⟨L, h1, h2.keep k, fun i x y a b => (h3 i x y a b).keep k⟩
theorem DosS.len {S : Nat → Prop} {w : World} {v : Value} {l : List Dd} (h : DosS S w v l) : ∃ a cap, v = .slice a l.length cap := by
  obtain ⟨L, h1, h2, -⟩ := h
  obtain ⟨a, cap, e⟩ := h2.1.len
  exact ⟨a, cap, h1 ▸ e⟩
theorem DosS.at {S : Nat → Prop} {w : World} {a : Option Addr} {k cap : Nat} {l : List Dd} (h : DosS S w (.slice a k cap) l) {j : Nat} {y : Dd} (hy : l[j]? = some y) :
    ∃ g off x, a = some ⟨g, off, none⟩ ∧ S g ∧ (∀ (i : Nat) c, (dcell x)[i]? = some c → w.cell? ⟨g, off + j * 15 + i, none⟩ = some c) ∧ DdIs S w x y := by
  obtain ⟨L, h1, h2, h3⟩ := h
  obtain ⟨x, hx⟩ : ∃ x, L[j]? = some x := ⟨L[j]'(by have := (List.getElem?_eq_some_iff.1 hy).1; omega), List.getElem?_eq_getElem _⟩
  obtain ⟨g, off, e, hg, hc⟩ := h2.at hx
  exact ⟨g, off, x, e, hg, fun i c hi => by rw [Nat.add_assoc]; exact hc i c hi, h3 j x y hx hy⟩
def ddls (l : List Dd) : Nat := (l.map ddl).sum
theorem ddls_next {l : List Dd} {p : Nat} {x : Dd} (hx : l[p]? = some x) : ddls (l.take (p + 1)) = ddls (l.take p) + ddl x := by
  rw [List.take_add_one, hx]
  simp [ddls]
theorem ddls_take (l : List Dd) (p : Nat) : ddls (l.take p) ≤ ddls l := by
  have h : ddls (l.take p ++ l.drop p) = ddls (l.take p) + ddls (l.drop p) := by unfold ddls; rw [List.map_append, List.sum_append]
  rw [List.take_append_drop] at h
  omega
theorem ddls_le {l : List Dd} {p : Nat} {x : Dd} (hx : l[p]? = some x) : ddl x + ddls (l.take p) ≤ ddls l := by
  have h1 := ddls_next hx
  have h2 := ddls_take l (p + 1)
  omega
theorem ddls_len : ∀ l : List Dd, l.length ≤ ddls l
  | [] => by simp [ddls]
  | x :: l => by
    have := ddls_len l
    have e : ddl x = 2 + x.g.length + x.l.length + nlN x.x := rfl
    simp only [ddls, List.map_cons, List.sum_cons, List.length_cons] at this ⊢
    omega
theorem ns_one {S : Nat → Prop} {w : World} {x : NV} {y : Nd} (hS : ∀ b, S b → b < w.heap.size) (h : NdIs S w x y) :
    NsS (fun b => S b ∨ b = w.heap.size) (w.alloc (.cells (ncell x).toArray 40)) (.slice (some ⟨w.heap.size, 0, none⟩) 1 1) [y] := by
  have hk := Kp.below (below_lit w (.cells (ncell x).toArray 40)) hS
  refine .mk _ _ [x] rfl ⟨?_, fun a k c e _ => ?_⟩ (fun i x' y' a b => ?_) (fun i x' y' a b => ?_)
  · have := fs_lit ncell_len w 40 [x]
    rw [flatV_one] at this
    exact this
  · injection e with e1
    injection e1 with e1
    subst e1
    exact ⟨.inr rfl, fun _ i _ => by
      have h := heap_alloc_new w (.cells (ncell x).toArray 40)
      simp only [World.frozen?, h]
      simp⟩
  · match i, a, b with
    | 0, a, b =>
      simp at a b
      subst a b
      exact (h.1.keep hk).mono fun b q => .inl q
    | i + 1, a, _ => simp at a
  · match i, a, b with
    | 0, a, b =>
      simp at a b
      subst a b
      exact (h.2.keep hk).mono fun b q => .inl q
    | i + 1, a, _ => simp at a
set_option maxRecDepth 100000 in
set_option maxHeartbeats 8000000 in
theorem rlong8_any (S : Nat → Prop) (l : List Dd) (v : Value) (w : World) (hS : ∀ b, S b → b < w.heap.size) (hv : DosS S w v l) (hb : ddls l ≤ 1000000000) :
    Calls Tryd.prog 29 #[v] w fun e w' => e = .returned (.int .i64 (ddls l : Int)) ∧ Below w.heap.size w w' := by
  have HV := Lib.hid hv
  have HS := Lib.hid hS
  obtain ⟨va, vc, rfl⟩ := hv.len
  have hln := ddls_len l
  obtain ⟨ln, hln2⟩ : ∃ n, l.length = n := ⟨_, rfl⟩
  have HLN := Lib.hid hln2
  rw [hln2] at HV hln ⊢
  clear hv hS hln2
  go_enter Tryd.func29, Tryd.ntmps29
  go_wp2_with fail
  go_loopw [3, 4] (fun s i wr => ∃ p : Nat, p ≤ ln ∧ s = .int .i64 (ddls (l.take p) : Int) ∧ i = .int .i64 (p : Int) ∧ Hid (Below w.heap.size w wr)) (fun _ i _ => ln - (intOf i).toNat)
  case atStart => exact ⟨0, by omega, by simp [ddls], rfl, Lib.hid (Below.refl _ _)⟩
  case round =>
    obtain ⟨p, hp, rfl, rfl, BW⟩ := hrel
    by_cases hlt : p < ln
    · obtain ⟨y, hy⟩ : ∃ y, l[p]? = some y := ⟨l[p]'(by rw [HLN.out]; exact hlt), List.getElem?_eq_getElem _⟩
      have HN := Lib.hid (ddls_next hy)
      have hle := ddls_le hy
      have hdd : ddl y = 2 + y.g.length + y.l.length + nlN y.x := rfl
      obtain ⟨g, off, dv, rfl, hgS, hC, hD⟩ := (HV.out.keep (Kp.below BW.out HS.out)).at hy
      obtain ⟨A, hA⟩ : ∃ A, ddls (l.take p) = A := ⟨_, rfl⟩
      rw [hA] at HN hle ⊢
      have hx2 := hD.x
      obtain ⟨ga, gc, hge⟩ := hD.g.1.len
      obtain ⟨la, lc, hle2⟩ := hD.l.1.len
      obtain ⟨dk, ⟨s1, s2, s3⟩, ⟨xk, xl, xn, ⟨t1, t2, t3⟩, ⟨k1, k2, k3⟩, ⟨r1, r2, r3⟩, xc, ⟨q1, q2, q3⟩, xb, xa⟩, dn, ⟨l1, l2, l3⟩, ⟨g1, g2, g3⟩⟩ := dv
      simp only [pv] at hge hle2
      injection hge with h1 h2 h3
      injection hle2 with h4 h5 h6
      obtain ⟨xv, hxv⟩ : ∃ xv : NV, xv = ⟨xk, xl, xn, (t1, t2, t3), (k1, k2, k3), (r1, r2, r3), xc, (q1, q2, q3), xb, xa⟩ := ⟨_, rfl⟩
      have hSr : ∀ b, S b → b < wr.heap.size := fun b q => Nat.lt_of_lt_of_le (HS.out b q) BW.out.size
      obtain ⟨X, hX⟩ : ∃ X, X = wr := ⟨_, rfl⟩
      have hLG : Hid (∀ W, Below wr.heap.size wr W → Calls Tryd.prog 19 #[.slice (some ⟨W.heap.size, 0, none⟩) 1 1] (W.alloc (.cells (ncell ⟨xk, xl, xn, (t1, t2, t3), (k1, k2, k3), (r1, r2, r3), xc, (q1, q2, q3), xb, xa⟩).toArray 40)) fun e w' => e = .returned (.int .i64 (nlN y.x : Int)) ∧ Below wr.heap.size wr w') := Lib.hid (fun W hb => by
        have hk := Kp.below hb hSr
        have hSW : ∀ b, S b → b < W.heap.size := fun b q => Nat.lt_of_lt_of_le (hSr b q) hb.size
        have h0 := ns_one hSW (hx2.keep hk)
        have hbl := below_lit W (.cells (ncell ⟨xk, xl, xn, (t1, t2, t3), (k1, k2, k3), (r1, r2, r3), xc, (q1, q2, q3), xb, xa⟩).toArray 40)
        have e1 : nlL [y.x] = nlN y.x := by simp [nlL]
        have := rlong_any _ (cntL [y.x]) [y.x] rfl (by rw [e1]; omega) _ _ h0
        unfold RdN at this
        rw [e1] at this
        exact this.mono (fun e w' ⟨q1, m, q2⟩ => ⟨q1, hb.trans ((hbl.trans (by rw [q2]; exact below_drewN (Below.refl _ _) m)).mono hb.size)⟩))
      have hg2 : g2 = y.g.length := h2
      have hl2 : l2 = y.l.length := h5
      have hsum : A + 2 + g2 + l2 + nlN y.x = A + ddl y := by omega
      have hb2 : A + ddl y ≤ 1000000000 := by omega
      obtain ⟨nx, hnx⟩ : ∃ q, nlN y.x = q := ⟨_, rfl⟩
      rw [hnx] at hLG hsum
      have HSM := Lib.hid hsum
      have w1 : IntKind.i64.wrap ((A : Int) + 2) = (A : Int) + 2 := IntWalk.i64_in _ (by omega)
      have w2 : IntKind.i64.wrap ((A : Int) + 2 + (g2 : Int)) = (A : Int) + 2 + (g2 : Int) := IntWalk.i64_in _ (by omega)
      have w3 : IntKind.i64.wrap ((A : Int) + 2 + (g2 : Int) + (l2 : Int)) = (A : Int) + 2 + (g2 : Int) + (l2 : Int) := IntWalk.i64_in _ (by omega)
      have w4 : IntKind.i64.wrap ((A : Int) + 2 + (g2 : Int) + (l2 : Int) + (nx : Int)) = (A : Int) + 2 + (g2 : Int) + (l2 : Int) + (nx : Int) := IntWalk.i64_in _ (by omega)
      have HSC : Hid (∀ W, Below wr.heap.size wr W → W.cell? ⟨g, off + p * 15 + 14, none⟩ = some (.slice g1 g2 g3) ∧ W.cell? ⟨g, off + p * 15 + 13, none⟩ = some (.slice l1 l2 l3) ∧ W.cell? ⟨g, off + p * 15 + 2, none⟩ = some (.int .i64 xk) ∧ W.cell? ⟨g, off + p * 15 + 3, none⟩ = some (.int .i64 xl) ∧ W.cell? ⟨g, off + p * 15 + 4, none⟩ = some (.int .i64 xn) ∧ W.cell? ⟨g, off + p * 15 + 5, none⟩ = some (.slice t1 t2 t3) ∧ W.cell? ⟨g, off + p * 15 + 6, none⟩ = some (.slice k1 k2 k3) ∧ W.cell? ⟨g, off + p * 15 + 7, none⟩ = some (.slice r1 r2 r3) ∧ W.cell? ⟨g, off + p * 15 + 8, none⟩ = some (.string ⟨xc.toArray⟩) ∧ W.cell? ⟨g, off + p * 15 + 9, none⟩ = some (.slice q1 q2 q3) ∧ W.cell? ⟨g, off + p * 15 + 10, none⟩ = some (.bool xb) ∧ W.cell? ⟨g, off + p * 15 + 11, none⟩ = some (.bool xa)) := Lib.hid (fun W hb => by
        have e : ∀ j, W.cell? ⟨g, j, none⟩ = wr.cell? ⟨g, j, none⟩ := fun j => World.cell?_of_block (hb.block g (hSr g hgS))
        exact ⟨(e _).trans (hC 14 _ rfl), (e _).trans (hC 13 _ rfl), (e _).trans (hC 2 _ rfl), (e _).trans (hC 3 _ rfl), (e _).trans (hC 4 _ rfl), (e _).trans (hC 5 _ rfl), (e _).trans (hC 6 _ rfl), (e _).trans (hC 7 _ rfl), (e _).trans (hC 8 _ rfl), (e _).trans (hC 9 _ rfl), (e _).trans (hC 10 _ rfl), (e _).trans (hC 11 _ rfl)⟩)
      have HX : Hid (Below wr.heap.size wr wr.drew) := Lib.hid (Below.refl _ wr).drew
      have hlt' : (p : Int) < (ln : Int) := by omega
      have hp0 : (0 : Int) ≤ (p : Int) := by omega
      simp only [ncell, pv] at hLG
      clear hy hle hdd hC hD hx2 h1 h2 h3 h4 h5 h6 hxv hSr hX hg2 hl2 hsum hb2 hnx hA hgS X xv
      go_upto_region 5 with fail
      refine wp_region_held_drew (S := (fun W' => W'.cell? ⟨g, off + p * 15 + 14, none⟩ = some (.slice g1 g2 g3) ∧ W'.cell? ⟨g, off + p * 15 + 13, none⟩ = some (.slice l1 l2 l3) ∧ W'.cell? ⟨g, off + p * 15 + 2, none⟩ = some (.int .i64 xk) ∧ W'.cell? ⟨g, off + p * 15 + 3, none⟩ = some (.int .i64 xl) ∧ W'.cell? ⟨g, off + p * 15 + 4, none⟩ = some (.int .i64 xn) ∧ W'.cell? ⟨g, off + p * 15 + 5, none⟩ = some (.slice t1 t2 t3) ∧ W'.cell? ⟨g, off + p * 15 + 6, none⟩ = some (.slice k1 k2 k3) ∧ W'.cell? ⟨g, off + p * 15 + 7, none⟩ = some (.slice r1 r2 r3) ∧ W'.cell? ⟨g, off + p * 15 + 8, none⟩ = some (.string ⟨xc.toArray⟩) ∧ W'.cell? ⟨g, off + p * 15 + 9, none⟩ = some (.slice q1 q2 q3) ∧ W'.cell? ⟨g, off + p * 15 + 10, none⟩ = some (.bool xb) ∧ W'.cell? ⟨g, off + p * 15 + 11, none⟩ = some (.bool xa))) (by kernel_rfl) ?_ (fun hHeld => ?_)
      · exact HSC.out _ HX.out
      refine wpAnyH_take (i := 0) (v := .int .i64 A) rfl (by kernel_rfl) (by kernel_rfl) (by kernel_rfl) (fun _ _ _ h => h) (Or.inl ⟨by rfl, fun w' hSw => by (try dsimp only at hSw); go_simp⟩) (by assumption) ?_
      simp only [List.getElem_toArray, List.getElem_cons_succ, List.getElem_cons_zero, Act.put, List.setIfInBounds_toArray, List.set_cons_zero, List.set_cons_succ]
      refine wpAnyH_take (i := 1) (v := .int .i64 (A + 2)) rfl (by kernel_rfl) (by kernel_rfl) (by kernel_rfl) (fun _ _ _ h => h) (Or.inl ⟨by rfl, fun w' hSw => by (try dsimp only at hSw); go_simp⟩) (by assumption) ?_
      simp only [List.getElem_toArray, List.getElem_cons_succ, List.getElem_cons_zero, Act.put, List.setIfInBounds_toArray, List.set_cons_zero, List.set_cons_succ]
      refine wpAnyH_take (i := 2) (v := .slice (some ⟨g, off, none⟩) ln vc) rfl (by kernel_rfl) (by kernel_rfl) (by kernel_rfl) (fun _ _ _ h => h) (Or.inl ⟨by rfl, fun w' hSw => by (try dsimp only at hSw); go_simp⟩) (by assumption) ?_
      simp only [List.getElem_toArray, List.getElem_cons_succ, List.getElem_cons_zero, Act.put, List.setIfInBounds_toArray, List.set_cons_zero, List.set_cons_succ]
      refine wpAnyH_take (i := 3) (v := .int .i64 p) rfl (by kernel_rfl) (by kernel_rfl) (by kernel_rfl) (fun _ _ _ h => h) (Or.inl ⟨by rfl, fun w' hSw => by (try dsimp only at hSw); go_simp⟩) (by assumption) ?_
      simp only [List.getElem_toArray, List.getElem_cons_succ, List.getElem_cons_zero, Act.put, List.setIfInBounds_toArray, List.set_cons_zero, List.set_cons_succ]
      refine wpAnyH_take (i := 4) (v := .pointer (some ⟨g, off + p * 15, none⟩)) rfl (by kernel_rfl) (by kernel_rfl) (by kernel_rfl) (fun _ _ _ h => h) (Or.inl ⟨by rfl, fun w' hSw => by (try dsimp only at hSw); go_simp⟩) (by assumption) ?_
      simp only [List.getElem_toArray, List.getElem_cons_succ, List.getElem_cons_zero, Act.put, List.setIfInBounds_toArray, List.set_cons_zero, List.set_cons_succ]
      refine wpAnyH_take (i := 5) (v := .pointer (some ⟨g, off + p * 15 + 14, none⟩)) rfl (by kernel_rfl) (by kernel_rfl) (by kernel_rfl) (fun _ _ _ h => h) (Or.inl ⟨by rfl, fun w' hSw => by (try dsimp only at hSw); go_simp⟩) (by assumption) ?_
      simp only [List.getElem_toArray, List.getElem_cons_succ, List.getElem_cons_zero, Act.put, List.setIfInBounds_toArray, List.set_cons_zero, List.set_cons_succ]
      refine wpAnyH_take (i := 6) (v := .slice g1 g2 g3) rfl (by kernel_rfl) (by kernel_rfl) (by kernel_rfl) (fun _ _ _ h => h) (Or.inl ⟨by rfl, fun w' hSw => by (try dsimp only at hSw); go_simp⟩) (by assumption) ?_
      simp only [List.getElem_toArray, List.getElem_cons_succ, List.getElem_cons_zero, Act.put, List.setIfInBounds_toArray, List.set_cons_zero, List.set_cons_succ]
      refine wpAnyH_take (i := 7) (v := .int .i64 g2) rfl (by kernel_rfl) (by kernel_rfl) (by kernel_rfl) (fun _ _ _ h => h) (Or.inl ⟨by rfl, fun w' hSw => by (try dsimp only at hSw); go_simp⟩) (by assumption) ?_
      simp only [List.getElem_toArray, List.getElem_cons_succ, List.getElem_cons_zero, Act.put, List.setIfInBounds_toArray, List.set_cons_zero, List.set_cons_succ]
      refine wpAnyH_take (i := 8) (v := .int .i64 (A + 2 + g2)) rfl (by kernel_rfl) (by kernel_rfl) (by kernel_rfl) (fun _ _ _ h => h) (Or.inl ⟨by rfl, fun w' hSw => by (try dsimp only at hSw); go_simp⟩) (by assumption) ?_
      simp only [List.getElem_toArray, List.getElem_cons_succ, List.getElem_cons_zero, Act.put, List.setIfInBounds_toArray, List.set_cons_zero, List.set_cons_succ]
      refine wpAnyH_take (i := 9) (v := .slice (some ⟨g, off, none⟩) ln vc) rfl (by kernel_rfl) (by kernel_rfl) (by kernel_rfl) (fun _ _ _ h => h) (Or.inl ⟨by rfl, fun w' hSw => by (try dsimp only at hSw); go_simp⟩) (by assumption) ?_
      simp only [List.getElem_toArray, List.getElem_cons_succ, List.getElem_cons_zero, Act.put, List.setIfInBounds_toArray, List.set_cons_zero, List.set_cons_succ]
      refine wpAnyH_take (i := 10) (v := .int .i64 p) rfl (by kernel_rfl) (by kernel_rfl) (by kernel_rfl) (fun _ _ _ h => h) (Or.inl ⟨by rfl, fun w' hSw => by (try dsimp only at hSw); go_simp⟩) (by assumption) ?_
      simp only [List.getElem_toArray, List.getElem_cons_succ, List.getElem_cons_zero, Act.put, List.setIfInBounds_toArray, List.set_cons_zero, List.set_cons_succ]
      refine wpAnyH_take (i := 11) (v := .pointer (some ⟨g, off + p * 15, none⟩)) rfl (by kernel_rfl) (by kernel_rfl) (by kernel_rfl) (fun _ _ _ h => h) (Or.inl ⟨by rfl, fun w' hSw => by (try dsimp only at hSw); go_simp⟩) (by assumption) ?_
      simp only [List.getElem_toArray, List.getElem_cons_succ, List.getElem_cons_zero, Act.put, List.setIfInBounds_toArray, List.set_cons_zero, List.set_cons_succ]
      refine wpAnyH_take (i := 12) (v := .pointer (some ⟨g, off + p * 15 + 13, none⟩)) rfl (by kernel_rfl) (by kernel_rfl) (by kernel_rfl) (fun _ _ _ h => h) (Or.inl ⟨by rfl, fun w' hSw => by (try dsimp only at hSw); go_simp⟩) (by assumption) ?_
      simp only [List.getElem_toArray, List.getElem_cons_succ, List.getElem_cons_zero, Act.put, List.setIfInBounds_toArray, List.set_cons_zero, List.set_cons_succ]
      refine wpAnyH_take (i := 13) (v := .slice l1 l2 l3) rfl (by kernel_rfl) (by kernel_rfl) (by kernel_rfl) (fun _ _ _ h => h) (Or.inl ⟨by rfl, fun w' hSw => by (try dsimp only at hSw); go_simp⟩) (by assumption) ?_
      simp only [List.getElem_toArray, List.getElem_cons_succ, List.getElem_cons_zero, Act.put, List.setIfInBounds_toArray, List.set_cons_zero, List.set_cons_succ]
      refine wpAnyH_take (i := 14) (v := .int .i64 l2) rfl (by kernel_rfl) (by kernel_rfl) (by kernel_rfl) (fun _ _ _ h => h) (Or.inl ⟨by rfl, fun w' hSw => by (try dsimp only at hSw); go_simp⟩) (by assumption) ?_
      simp only [List.getElem_toArray, List.getElem_cons_succ, List.getElem_cons_zero, Act.put, List.setIfInBounds_toArray, List.set_cons_zero, List.set_cons_succ]
      refine wpAnyH_take (i := 15) (v := .int .i64 (A + 2 + g2 + l2)) rfl (by kernel_rfl) (by kernel_rfl) (by kernel_rfl) (fun _ _ _ h => h) (Or.inl ⟨by rfl, fun w' hSw => by (try dsimp only at hSw); go_simp⟩) (by assumption) ?_
      simp only [List.getElem_toArray, List.getElem_cons_succ, List.getElem_cons_zero, Act.put, List.setIfInBounds_toArray, List.set_cons_zero, List.set_cons_succ]
      refine wpAnyH_take (i := 16) (v := .slice (some ⟨g, off, none⟩) ln vc) rfl (by kernel_rfl) (by kernel_rfl) (by kernel_rfl) (fun _ _ _ h => h) (Or.inl ⟨by rfl, fun w' hSw => by (try dsimp only at hSw); go_simp⟩) (by assumption) ?_
      simp only [List.getElem_toArray, List.getElem_cons_succ, List.getElem_cons_zero, Act.put, List.setIfInBounds_toArray, List.set_cons_zero, List.set_cons_succ]
      refine wpAnyH_take (i := 17) (v := .int .i64 p) rfl (by kernel_rfl) (by kernel_rfl) (by kernel_rfl) (fun _ _ _ h => h) (Or.inl ⟨by rfl, fun w' hSw => by (try dsimp only at hSw); go_simp⟩) (by assumption) ?_
      simp only [List.getElem_toArray, List.getElem_cons_succ, List.getElem_cons_zero, Act.put, List.setIfInBounds_toArray, List.set_cons_zero, List.set_cons_succ]
      refine wpAnyH_take (i := 18) (v := .pointer (some ⟨g, off + p * 15, none⟩)) rfl (by kernel_rfl) (by kernel_rfl) (by kernel_rfl) (fun _ _ _ h => h) (Or.inl ⟨by rfl, fun w' hSw => by (try dsimp only at hSw); go_simp⟩) (by assumption) ?_
      simp only [List.getElem_toArray, List.getElem_cons_succ, List.getElem_cons_zero, Act.put, List.setIfInBounds_toArray, List.set_cons_zero, List.set_cons_succ]
      refine wpAnyH_take (i := 19) (v := .pointer (some ⟨g, off + p * 15 + 2, none⟩)) rfl (by kernel_rfl) (by kernel_rfl) (by kernel_rfl) (fun _ _ _ h => h) (Or.inl ⟨by rfl, fun w' hSw => by (try dsimp only at hSw); go_simp⟩) (by assumption) ?_
      simp only [List.getElem_toArray, List.getElem_cons_succ, List.getElem_cons_zero, Act.put, List.setIfInBounds_toArray, List.set_cons_zero, List.set_cons_succ]
      refine wpAnyH_take (i := 20) (v := .agg #[.int .i64 xk, .int .i64 xl, .int .i64 xn, .slice t1 t2 t3, .slice k1 k2 k3, .slice r1 r2 r3, .string ⟨xc.toArray⟩, .slice q1 q2 q3, .bool xb, .bool xa]) rfl (by kernel_rfl) (by kernel_rfl) (by kernel_rfl) (fun _ _ _ h => h) (Or.inl ⟨by rfl, fun w' hSw => by (try dsimp only at hSw); go_simp⟩) (by assumption) ?_
      simp only [List.getElem_toArray, List.getElem_cons_succ, List.getElem_cons_zero, Act.put, List.setIfInBounds_toArray, List.set_cons_zero, List.set_cons_succ]
      refine wpAnyH_ready (rs := [21]) (by kernel_rfl) (by simp) ?_
      refine AllReadyH.cons rfl (fun K hK => ?_) AllReadyH.nil
      try simp only [List.getElem_toArray, List.getElem_cons_succ, List.getElem_cons_zero]
      go_simp
      refine hK.out _ _ ?_ (fun hHeld => ?_)
      · exact HSC.out _ (HX.out.alloc HX.out.size _)
      clear hK K
      try simp only [List.getElem_toArray, List.getElem_cons_succ, List.getElem_cons_zero, Act.put, List.setIfInBounds_toArray, List.set_cons_zero, List.set_cons_succ]
      refine wpAnyH_ready (rs := [22]) (by kernel_rfl) (by simp) ?_
      refine AllReadyH.cons rfl (fun K hK => ?_) AllReadyH.nil
      try simp only [List.getElem_toArray, List.getElem_cons_succ, List.getElem_cons_zero]
      go_simp
      go_at_call 19
      refine (hLG.out wr.drew HX.out).mono ?_
      rintro e w7 ⟨rfl, b7⟩
      clear HX
      have HX := Lib.hid b7
      clear b7
      go_wp2_with fail
      refine hK.out _ _ ?_ (fun hHeld => ?_)
      · exact HSC.out _ HX.out
      clear hK K
      try simp only [List.getElem_toArray, List.getElem_cons_succ, List.getElem_cons_zero, Act.put, List.setIfInBounds_toArray, List.set_cons_zero, List.set_cons_succ]
      refine wpAnyH_take (i := 23) (v := .int .i64 (A + 2 + g2 + l2 + nx)) rfl (by kernel_rfl) (by kernel_rfl) (by kernel_rfl) (fun _ _ _ h => h) (Or.inl ⟨by rfl, fun w' hSw => by (try dsimp only at hSw); go_simp⟩) (by assumption) ?_
      simp only [List.getElem_toArray, List.getElem_cons_succ, List.getElem_cons_zero, Act.put, List.setIfInBounds_toArray, List.set_cons_zero, List.set_cons_succ]
      refine wpAnyH_take (i := 24) (v := .int .i64 (A + 2 + g2 + l2 + nx)) rfl (by kernel_rfl) (by kernel_rfl) (by kernel_rfl) (fun _ _ _ h => h) (Or.inl ⟨by rfl, fun w' hSw => by (try dsimp only at hSw); go_simp⟩) (by assumption) ?_
      simp only [List.getElem_toArray, List.getElem_cons_succ, List.getElem_cons_zero, Act.put, List.setIfInBounds_toArray, List.set_cons_zero, List.set_cons_succ]
      refine wpAnyH_done (by kernel_rfl) ?_ _
      go_wp2_with fail
      go_roundw
      case rel => exact ⟨p + 1, by omega, by rw [HN.out, ← HSM.out]; go_num, by go_num, Lib.hid (BW.out.trans (HX.out.mono BW.out.size))⟩
      case measure => (simp [intOf]; try omega)
    · obtain rfl : p = ln := by omega
      have hlt' : ¬ (p : Int) < (p : Int) := by omega
      rw [List.take_of_length_le (by rw [HLN.out]; omega)]
      go_wp2_with fail
      go_ret
      exact ⟨rfl, BW.out⟩
end Go.Proofs.YtpccjgoeoeehoaaDoor
namespace Go.Proofs.YtpccjgoeoeehoaaDoor
open Go.RowKit
def longD (l : List Dd) : Bool := decide (800 < ddls l) || decide (60 < l.length)
theorem longD_false {l : List Dd} (h : longD l = false) : ddls l ≤ 800 ∧ l.length ≤ 60 := by
  unfold longD at h
  simp only [Bool.or_eq_false_iff, decide_eq_false_iff_not] at h
  omega
set_option maxRecDepth 100000 in
theorem llong_any (S : Nat → Prop) (l : List Dd) (v : Value) (w : World) (hS : ∀ b, S b → b < w.heap.size) (hv : DosS S w v l) (hb : ddls l ≤ 1000000000) :
    Calls Tryd.prog 8 #[v] w fun e w' => e = .returned (.bool (longD l)) ∧ Below w.heap.size w w' := by
  have HL := Lib.hid (rlong8_any S l v w hS hv hb)
  obtain ⟨va, vc, rfl⟩ := hv.len
  have hln := ddls_len l
  unfold longD
  obtain ⟨n, hn⟩ : ∃ n, ddls l = n := ⟨_, rfl⟩
  obtain ⟨k, hk⟩ : ∃ n, l.length = n := ⟨_, rfl⟩
  rw [hn, hk] at HL hln
  rw [hn] at hb
  rw [hn, hk]
  obtain ⟨R, hR⟩ : ∃ R, (decide (800 < n) || decide (60 < k)) = R := ⟨_, rfl⟩
  rw [hR]
  have HR := Lib.hid hR
  clear hv hn hk hS hR
  go_enter Tryd.func8, Tryd.ntmps8
  go_wp2_with fail
  refine HL.out.mono ?_
  rintro e w1 ⟨rfl, b1⟩
  have B1 := Lib.hid b1
  clear b1 HL
  by_cases h1 : 800 < n
  · have e1 : decide (800 < n) = true := decide_eq_true h1
    have e2 : decide ((n : Int) > 800) = true := decide_eq_true (by omega)
    have e3 : decide ((800 : Int) < (n : Int)) = true := decide_eq_true (by omega)
    have HQ : Hid (true = R) := Lib.hid (by rw [← HR.out, e1]; rfl)
    clear e1
    go_wp2_with fail
    go_ret
    exact ⟨ret_bool HQ.out, B1.out⟩
  · have e1 : decide (800 < n) = false := decide_eq_false h1
    have e2 : decide ((n : Int) > 800) = false := decide_eq_false (by omega)
    have e3 : decide ((800 : Int) < (n : Int)) = false := decide_eq_false (by omega)
    by_cases h2 : 60 < k
    · have f1 : decide (60 < k) = true := decide_eq_true h2
      have f2 : decide ((k : Int) > 60) = true := decide_eq_true (by omega)
      have f3 : decide ((60 : Int) < (k : Int)) = true := decide_eq_true (by omega)
      have HQ : Hid (true = R) := Lib.hid (by rw [← HR.out, e1, f1]; rfl)
      clear e1 f1
      go_wp2_with fail
      go_ret
      exact ⟨ret_bool HQ.out, B1.out⟩
    · have f1 : decide (60 < k) = false := decide_eq_false h2
      have f2 : decide ((k : Int) > 60) = false := decide_eq_false (by omega)
      have f3 : decide ((60 : Int) < (k : Int)) = false := decide_eq_false (by omega)
      have HQ : Hid (false = R) := Lib.hid (by rw [← HR.out, e1, f1]; rfl)
      clear e1 f1
      go_wp2_with fail
      go_ret
      exact ⟨ret_bool HQ.out, B1.out⟩
set_option maxRecDepth 100000 in
theorem lname_any (fn : Nat) (l : List (List UInt8)) (k : Nat) (v : Value) (w : World) (hv : Fs 1 scell w v l) (hl : l.length ≤ 2000000) (hk : k ≤ 3) :
    Calls Tryd.prog 32 #[v, .int .i64 (k : Int)] w fun e w' => e = .returned (.string ⟨(nameAt l k).toArray⟩) ∧ w' = w := by
  obtain ⟨a, c, rfl, -, hr⟩ := hv
  by_cases hlt : k < l.length
  · obtain ⟨x, hx⟩ : ∃ x, l[k]? = some x := ⟨l[k], List.getElem?_eq_getElem hlt⟩
    obtain ⟨g, off, rfl, hc⟩ := hr k x hx
    have c0 := hc 0 _ rfl
    rw [Nat.mul_one, Nat.add_zero] at c0
    have hN : nameAt l k = x := by unfold nameAt; rw [List.getD_eq_getElem?_getD, hx]; rfl
    rw [hN]
    have h1 : ¬ ((k : Int) ≥ (l.length : Int)) := by omega
    have h2 : (k : Int) < (l.length : Int) := by omega
    have h3 : (0 : Int) ≤ (k : Int) := by omega
    clear hN hx hc hr
    go_enter Tryd.func32, Tryd.ntmps32
    go_wp2_with fail
    go_ret
    exact ⟨rfl, rfl⟩
  · have hN : nameAt l k = [] := by unfold nameAt; rw [List.getD_eq_getElem?_getD, List.getElem?_eq_none (by omega)]; rfl
    rw [hN]
    have h1 : ((k : Int) ≥ (l.length : Int)) := by omega
    clear hr hN
    go_enter Tryd.func32, Tryd.ntmps32
    go_wp2_with fail
    go_ret
    exact ⟨rfl, rfl⟩
end Go.Proofs.YtpccjgoeoeehoaaDoor
namespace Go.Proofs.YtpccjgoeoeehoaaDoor
open Go.RowKit
structure Told (P : Bt → World → Prop) (bp : Value) (t : Bt) (dv : DV) (d : Dd) (w : World) : Prop where
  title : d.kind = 1 → ∀ W, Below w.heap.size w W → Calls Tryd.prog 28 #[bp, .string ⟨(nameAt d.s 0).toArray⟩, .string ⟨(nameAt d.s 1).toArray⟩, .string ⟨(nameAt d.s 2).toArray⟩, .string ⟨(nameAt d.s 3).toArray⟩] W fun e w' => e = .returned (.tuple #[]) ∧ P (bStep t d).1 w' ∧ ∀ k, w.heap.size ≤ k → k < W.heap.size → w'.heap[k]? = W.heap[k]?
  opn : d.kind = 2 → ∀ W, Below w.heap.size w W → Calls Tryd.prog 30 #[bp, .agg (ncell dv.x).toArray] W fun e w' => e = .returned (.tuple #[]) ∧ P (bStep t d).1 w'
  close : d.kind = 3 → ∀ W, Below w.heap.size w W → Calls Tryd.prog 27 #[bp, .int .i64 d.n] W fun e w' => e = .returned (.bool (bStep t d).2) ∧ P (bStep t d).1 w'
  shut : d.kind = 4 → ∀ W, Below w.heap.size w W → Calls Tryd.prog 23 #[bp, pv dv.l] W fun e w' => e = .returned (.tuple #[]) ∧ P (bStep t d).1 w'
  text : d.kind = 5 → ∀ W, Below w.heap.size w W → Calls Tryd.prog 24 #[bp, pv dv.g, .int .i64 d.n] W fun e w' => e = .returned (.tuple #[]) ∧ P (bStep t d).1 w'
  nd : d.kind = 6 → ∀ W, Below w.heap.size w W → Calls Tryd.prog 22 #[bp] W fun e w' => e = .returned (.tuple #[]) ∧ P (bStep t d).1 w'
  add : ¬ d.kind = 1 → ¬ d.kind = 2 → ¬ d.kind = 3 → ¬ d.kind = 4 → ¬ d.kind = 5 → ¬ d.kind = 6 → ∀ W, Below w.heap.size w W → Calls Tryd.prog 20 #[bp, .agg (ncell dv.x).toArray] W fun e w' => e = .returned (.tuple #[]) ∧ P (bStep t d).1 w'
theorem bStep_false {t : Bt} {d : Dd} (h : ¬ d.kind = 3) : (bStep t d).2 = false := by
  unfold bStep
  repeat' split
  all_goals first | rfl | (exact absurd (by assumption) h)
set_option maxRecDepth 100000 in
set_option maxHeartbeats 8000000 in
theorem ldone_any (P : Bt → World → Prop) (S : Nat → Prop) (bb : Nat) (t : Bt) (dv : DV) (d : Dd) (w : World) (hS : ∀ b, S b → b < w.heap.size) (hd : DdIs S w dv d) (hs : d.s.length ≤ 2000000) (hT : Told P (.pointer (some ⟨bb, 0, none⟩)) t dv d w) :
    Calls Tryd.prog 11 #[.pointer (some ⟨bb, 0, none⟩), .agg (dcell dv).toArray] w fun e w' => e = .returned (.bool (bStep t d).2) ∧ P (bStep t d).1 w' := by
  obtain ⟨W0, hW0⟩ : ∃ W, W = w.alloc (.cells (dcell dv).toArray 43) := ⟨_, rfl⟩
  have b0 : Below w.heap.size w W0 := by rw [hW0]; exact below_lit w _
  have kD : Blk W0 w.heap.size 43 (dcell dv) := by rw [hW0]; exact heap_alloc_new w _
  have hss := hd.s.keep (Kp.below b0 hS)
  have hS0 : ∀ b, S b → b < W0.heap.size := fun b q => Nat.lt_of_lt_of_le (hS b q) b0.size
  obtain ⟨dk, ⟨s1, s2, s3⟩, ⟨xk, xl, xn, ⟨t1, t2, t3⟩, ⟨k1, k2, k3⟩, ⟨r1, r2, r3⟩, xc, ⟨q1, q2, q3⟩, xb, xa⟩, dn, ⟨l1, l2, l3⟩, ⟨g1, g2, g3⟩⟩ := dv
  have ek := hd.kind
  have en := hd.n
  simp only at ek en
  have HT := Lib.hid hT
  have HW0 := Lib.hid hW0
  have HKD := Lib.hid kD
  have HSS := Lib.hid hss
  have HS0 := Lib.hid hS0
  have HB0 := Lib.hid b0
  have HEK := Lib.hid ek.symm
  have HEN := Lib.hid en.symm
  simp only [dcell, pv] at HKD
  have m0 : W0.cell? ⟨w.heap.size, 0, none⟩ = some (.int .i64 dk) := HKD.out.cell 0
  have m1 : W0.cell? ⟨w.heap.size, 1, none⟩ = some (.slice s1 s2 s3) := HKD.out.cell 1
  have m2 : W0.cell? ⟨w.heap.size, 2, none⟩ = some (.int .i64 xk) := HKD.out.cell 2
  have m3 : W0.cell? ⟨w.heap.size, 3, none⟩ = some (.int .i64 xl) := HKD.out.cell 3
  have m4 : W0.cell? ⟨w.heap.size, 4, none⟩ = some (.int .i64 xn) := HKD.out.cell 4
  have m5 : W0.cell? ⟨w.heap.size, 5, none⟩ = some (.slice t1 t2 t3) := HKD.out.cell 5
  have m6 : W0.cell? ⟨w.heap.size, 6, none⟩ = some (.slice k1 k2 k3) := HKD.out.cell 6
  have m7 : W0.cell? ⟨w.heap.size, 7, none⟩ = some (.slice r1 r2 r3) := HKD.out.cell 7
  have m8 : W0.cell? ⟨w.heap.size, 8, none⟩ = some (.string ⟨xc.toArray⟩) := HKD.out.cell 8
  have m9 : W0.cell? ⟨w.heap.size, 9, none⟩ = some (.slice q1 q2 q3) := HKD.out.cell 9
  have m10 : W0.cell? ⟨w.heap.size, 10, none⟩ = some (.bool xb) := HKD.out.cell 10
  have m11 : W0.cell? ⟨w.heap.size, 11, none⟩ = some (.bool xa) := HKD.out.cell 11
  have m12 : W0.cell? ⟨w.heap.size, 12, none⟩ = some (.int .i64 dn) := HKD.out.cell 12
  have m13 : W0.cell? ⟨w.heap.size, 13, none⟩ = some (.slice l1 l2 l3) := HKD.out.cell 13
  have m14 : W0.cell? ⟨w.heap.size, 14, none⟩ = some (.slice g1 g2 g3) := HKD.out.cell 14
  obtain ⟨RR, hRR⟩ : ∃ r, (bStep t d).2 = r := ⟨_, rfl⟩
  rw [hRR]
  have HRR := Lib.hid hRR
  clear hT hW0 kD hss hS0 b0 ek en hd hS hRR
  go_enter Tryd.func11, Tryd.ntmps11
  go_upto_region 1 with fail
  rw [← HW0.out]
  clear HW0
  by_cases c1 : dk = 1
  · subst c1
    have e11 : ((1 : Int) == 1) = true := rfl
    have HF3 : Hid (RR = false) := Lib.hid (by rw [← HRR.out]; exact bStep_false (by rw [HEK.out]; omega))
    have HSC : Hid (∀ W, Below W0.heap.size W0 W → W.cell? ⟨w.heap.size, 1, none⟩ = some (.slice s1 s2 s3)) := Lib.hid (fun W hb => (HKD.out.below hb).cell 1)
    have HNM : Hid (∀ W (k : Nat), Below W0.heap.size W0 W → k ≤ 3 → Calls Tryd.prog 32 #[.slice s1 s2 s3, .int .i64 (k : Int)] W fun e w' => e = .returned (.string ⟨(nameAt d.s k).toArray⟩) ∧ w' = W) := Lib.hid (fun W k hb hk => lname_any 0 d.s k _ W (HSS.out.keep (Kp.below hb HS0.out)).1 hs hk)
    have hQ := HT.out.title HEK.out
    obtain ⟨n0, hn0⟩ : ∃ q, nameAt d.s 0 = q := ⟨_, rfl⟩
    obtain ⟨n1, hn1⟩ : ∃ q, nameAt d.s 1 = q := ⟨_, rfl⟩
    obtain ⟨n2, hn2⟩ : ∃ q, nameAt d.s 2 = q := ⟨_, rfl⟩
    obtain ⟨n3, hn3⟩ : ∃ q, nameAt d.s 3 = q := ⟨_, rfl⟩
    rw [hn0, hn1, hn2, hn3] at hQ
    have HQ := Lib.hid hQ
    have HN0 : Hid (∀ W, Below W0.heap.size W0 W → Calls Tryd.prog 32 #[.slice s1 s2 s3, .int .i64 0] W fun e w' => e = .returned (.string ⟨n0.toArray⟩) ∧ w' = W) := Lib.hid (fun W hb => by have := HNM.out W 0 hb (by omega); rw [hn0] at this; exact this)
    have HN1 : Hid (∀ W, Below W0.heap.size W0 W → Calls Tryd.prog 32 #[.slice s1 s2 s3, .int .i64 1] W fun e w' => e = .returned (.string ⟨n1.toArray⟩) ∧ w' = W) := Lib.hid (fun W hb => by have := HNM.out W 1 hb (by omega); rw [hn1] at this; exact this)
    have HN2 : Hid (∀ W, Below W0.heap.size W0 W → Calls Tryd.prog 32 #[.slice s1 s2 s3, .int .i64 2] W fun e w' => e = .returned (.string ⟨n2.toArray⟩) ∧ w' = W) := Lib.hid (fun W hb => by have := HNM.out W 2 hb (by omega); rw [hn2] at this; exact this)
    have HN3 : Hid (∀ W, Below W0.heap.size W0 W → Calls Tryd.prog 32 #[.slice s1 s2 s3, .int .i64 3] W fun e w' => e = .returned (.string ⟨n3.toArray⟩) ∧ w' = W) := Lib.hid (fun W hb => by have := HNM.out W 3 hb (by omega); rw [hn3] at this; exact this)
    clear hQ hn0 hn1 hn2 hn3 HNM
    have HX : Hid (Below W0.heap.size W0 W0.drew) := Lib.hid (Below.refl _ W0).drew
    go_upto_region 4 with fail
    refine wp_region_held_drew (S := (fun W' => W'.cell? ⟨w.heap.size, 1, none⟩ = some (.slice s1 s2 s3))) (by kernel_rfl) ?_ (fun hHeld => ?_)
    · exact HSC.out _ HX.out
    refine wpAnyH_take (i := 0) (v := .pointer (some ⟨bb, 0, none⟩)) rfl (by kernel_rfl) (by kernel_rfl) (by kernel_rfl) (fun _ _ _ h => h) (Or.inl ⟨by rfl, fun w' hSw => by (try dsimp only at hSw); go_simp⟩) (by assumption) ?_
    simp only [List.getElem_toArray, List.getElem_cons_succ, List.getElem_cons_zero, Act.put, List.setIfInBounds_toArray, List.set_cons_zero, List.set_cons_succ]
    refine wpAnyH_take (i := 1) (v := .pointer (some ⟨w.heap.size, 1, none⟩)) rfl (by kernel_rfl) (by kernel_rfl) (by kernel_rfl) (fun _ _ _ h => h) (Or.inl ⟨by rfl, fun w' hSw => by (try dsimp only at hSw); go_simp⟩) (by assumption) ?_
    simp only [List.getElem_toArray, List.getElem_cons_succ, List.getElem_cons_zero, Act.put, List.setIfInBounds_toArray, List.set_cons_zero, List.set_cons_succ]
    refine wpAnyH_take (i := 2) (v := .slice s1 s2 s3) rfl (by kernel_rfl) (by kernel_rfl) (by kernel_rfl) (fun _ _ _ h => h) (Or.inl ⟨by rfl, fun w' hSw => by (try dsimp only at hSw); go_simp⟩) (by assumption) ?_
    simp only [List.getElem_toArray, List.getElem_cons_succ, List.getElem_cons_zero, Act.put, List.setIfInBounds_toArray, List.set_cons_zero, List.set_cons_succ]
    refine wpAnyH_take (i := 4) (v := .pointer (some ⟨w.heap.size, 1, none⟩)) rfl (by kernel_rfl) (by kernel_rfl) (by kernel_rfl) (fun _ _ _ h => h) (Or.inl ⟨by rfl, fun w' hSw => by (try dsimp only at hSw); go_simp⟩) (by assumption) ?_
    simp only [List.getElem_toArray, List.getElem_cons_succ, List.getElem_cons_zero, Act.put, List.setIfInBounds_toArray, List.set_cons_zero, List.set_cons_succ]
    refine wpAnyH_take (i := 5) (v := .slice s1 s2 s3) rfl (by kernel_rfl) (by kernel_rfl) (by kernel_rfl) (fun _ _ _ h => h) (Or.inl ⟨by rfl, fun w' hSw => by (try dsimp only at hSw); go_simp⟩) (by assumption) ?_
    simp only [List.getElem_toArray, List.getElem_cons_succ, List.getElem_cons_zero, Act.put, List.setIfInBounds_toArray, List.set_cons_zero, List.set_cons_succ]
    refine wpAnyH_take (i := 7) (v := .pointer (some ⟨w.heap.size, 1, none⟩)) rfl (by kernel_rfl) (by kernel_rfl) (by kernel_rfl) (fun _ _ _ h => h) (Or.inl ⟨by rfl, fun w' hSw => by (try dsimp only at hSw); go_simp⟩) (by assumption) ?_
    simp only [List.getElem_toArray, List.getElem_cons_succ, List.getElem_cons_zero, Act.put, List.setIfInBounds_toArray, List.set_cons_zero, List.set_cons_succ]
    refine wpAnyH_take (i := 8) (v := .slice s1 s2 s3) rfl (by kernel_rfl) (by kernel_rfl) (by kernel_rfl) (fun _ _ _ h => h) (Or.inl ⟨by rfl, fun w' hSw => by (try dsimp only at hSw); go_simp⟩) (by assumption) ?_
    simp only [List.getElem_toArray, List.getElem_cons_succ, List.getElem_cons_zero, Act.put, List.setIfInBounds_toArray, List.set_cons_zero, List.set_cons_succ]
    refine wpAnyH_take (i := 10) (v := .pointer (some ⟨w.heap.size, 1, none⟩)) rfl (by kernel_rfl) (by kernel_rfl) (by kernel_rfl) (fun _ _ _ h => h) (Or.inl ⟨by rfl, fun w' hSw => by (try dsimp only at hSw); go_simp⟩) (by assumption) ?_
    simp only [List.getElem_toArray, List.getElem_cons_succ, List.getElem_cons_zero, Act.put, List.setIfInBounds_toArray, List.set_cons_zero, List.set_cons_succ]
    refine wpAnyH_take (i := 11) (v := .slice s1 s2 s3) rfl (by kernel_rfl) (by kernel_rfl) (by kernel_rfl) (fun _ _ _ h => h) (Or.inl ⟨by rfl, fun w' hSw => by (try dsimp only at hSw); go_simp⟩) (by assumption) ?_
    simp only [List.getElem_toArray, List.getElem_cons_succ, List.getElem_cons_zero, Act.put, List.setIfInBounds_toArray, List.set_cons_zero, List.set_cons_succ]
    refine wpAnyH_ready (rs := [3]) (by kernel_rfl) (by simp) ?_
    refine AllReadyH.cons rfl (fun K hK => ?_) AllReadyH.nil
    try simp only [List.getElem_toArray, List.getElem_cons_succ, List.getElem_cons_zero]
    go_simp
    go_at_call 32
    refine (HN0.out _ HX.out).mono ?_
    rintro e w7 ⟨rfl, hw7⟩
    rw [← hw7] at HX
    clear hw7
    go_wp2_with fail
    refine hK.out _ _ ?_ (fun hHeld => ?_)
    · exact HSC.out _ HX.out
    clear hK K
    try simp only [List.getElem_toArray, List.getElem_cons_succ, List.getElem_cons_zero, Act.put, List.setIfInBounds_toArray, List.set_cons_zero, List.set_cons_succ]
    refine wpAnyH_ready (rs := [6]) (by kernel_rfl) (by simp) ?_
    refine AllReadyH.cons rfl (fun K hK => ?_) AllReadyH.nil
    try simp only [List.getElem_toArray, List.getElem_cons_succ, List.getElem_cons_zero]
    go_simp
    go_at_call 32
    refine (HN1.out _ HX.out).mono ?_
    rintro e w7 ⟨rfl, hw7⟩
    rw [← hw7] at HX
    clear hw7
    go_wp2_with fail
    refine hK.out _ _ ?_ (fun hHeld => ?_)
    · exact HSC.out _ HX.out
    clear hK K
    try simp only [List.getElem_toArray, List.getElem_cons_succ, List.getElem_cons_zero, Act.put, List.setIfInBounds_toArray, List.set_cons_zero, List.set_cons_succ]
    refine wpAnyH_ready (rs := [9]) (by kernel_rfl) (by simp) ?_
    refine AllReadyH.cons rfl (fun K hK => ?_) AllReadyH.nil
    try simp only [List.getElem_toArray, List.getElem_cons_succ, List.getElem_cons_zero]
    go_simp
    go_at_call 32
    refine (HN2.out _ HX.out).mono ?_
    rintro e w7 ⟨rfl, hw7⟩
    rw [← hw7] at HX
    clear hw7
    go_wp2_with fail
    refine hK.out _ _ ?_ (fun hHeld => ?_)
    · exact HSC.out _ HX.out
    clear hK K
    try simp only [List.getElem_toArray, List.getElem_cons_succ, List.getElem_cons_zero, Act.put, List.setIfInBounds_toArray, List.set_cons_zero, List.set_cons_succ]
    refine wpAnyH_ready (rs := [12]) (by kernel_rfl) (by simp) ?_
    refine AllReadyH.cons rfl (fun K hK => ?_) AllReadyH.nil
    try simp only [List.getElem_toArray, List.getElem_cons_succ, List.getElem_cons_zero]
    go_simp
    go_at_call 32
    refine (HN3.out _ HX.out).mono ?_
    rintro e w7 ⟨rfl, hw7⟩
    rw [← hw7] at HX
    clear hw7
    go_wp2_with fail
    refine hK.out _ _ ?_ (fun hHeld => ?_)
    · exact HSC.out _ HX.out
    clear hK K
    try simp only [List.getElem_toArray, List.getElem_cons_succ, List.getElem_cons_zero, Act.put, List.setIfInBounds_toArray, List.set_cons_zero, List.set_cons_succ]
    refine wpAnyH_ready (rs := [13]) (by kernel_rfl) (by simp) ?_
    refine AllReadyH.cons rfl (fun K hK => ?_) AllReadyH.nil
    try simp only [List.getElem_toArray, List.getElem_cons_succ, List.getElem_cons_zero]
    go_simp
    go_at_call 28
    refine (HQ.out _ (HB0.out.trans (HX.out.mono HB0.out.size))).mono ?_
    rintro e w8 ⟨rfl, hp, hfr⟩
    have HP := Lib.hid hp
    have HC8 : Hid (w8.cell? ⟨w.heap.size, 1, none⟩ = some (.slice s1 s2 s3)) := Lib.hid ((World.cell?_of_block (hfr w.heap.size (Nat.le_refl _) (Nat.lt_of_lt_of_le (Array.getElem?_eq_some_iff.1 HKD.out).1 HX.out.size))).trans (HSC.out _ HX.out))
    clear hp hfr
    go_wp2_with fail
    refine hK.out _ _ ?_ (fun hHeld => ?_)
    · exact HC8.out
    clear hK K
    try simp only [List.getElem_toArray, List.getElem_cons_succ, List.getElem_cons_zero, Act.put, List.setIfInBounds_toArray, List.set_cons_zero, List.set_cons_succ]
    refine wpAnyH_done (by kernel_rfl) ?_ _
    go_wp2_with fail
    go_ret
    exact ⟨ret_bool HF3.out.symm, HP.out⟩
  have d1 : (dk == 1) = false := beq_eq_false_iff_ne.2 c1
  by_cases c2 : dk = 2
  · subst c2
    have e21 : ((2 : Int) == 1) = false := rfl
    have e22 : ((2 : Int) == 2) = true := rfl
    have hQ := HT.out.opn HEK.out W0 HB0.out
    skip
    try simp only [ncell, pv] at hQ
    have HQ := Lib.hid hQ
    clear hQ
    have HF3 : Hid (RR = false) := Lib.hid (by rw [← HRR.out]; exact bStep_false (by rw [HEK.out]; omega))
    go_wp2_with fail
    refine HQ.out.mono ?_
    rintro e wq ⟨rfl, hp⟩
    have HP := Lib.hid hp
    clear hp HQ m0 m1 m2 m3 m4 m5 m6 m7 m8 m9 m10 m11 m12 m13 m14
    go_wp2_with fail
    go_ret
    exact ⟨ret_bool HF3.out.symm, HP.out⟩
  have d2 : (dk == 2) = false := beq_eq_false_iff_ne.2 c2
  by_cases c3 : dk = 3
  · subst c3
    have e31 : ((3 : Int) == 1) = false := rfl
    have e32 : ((3 : Int) == 2) = false := rfl
    have e33 : ((3 : Int) == 3) = true := rfl
    have hQ := HT.out.close HEK.out W0 HB0.out
    rw [HEN.out, HRR.out] at hQ
    have HQ := Lib.hid hQ
    clear hQ
    go_wp2_with fail
    refine HQ.out.mono ?_
    rintro e wq ⟨rfl, hp⟩
    have HP := Lib.hid hp
    clear hp HQ m0 m1 m2 m3 m4 m5 m6 m7 m8 m9 m10 m11 m12 m13 m14
    go_wp2_with fail
    go_ret
    exact ⟨rfl, HP.out⟩
  have d3 : (dk == 3) = false := beq_eq_false_iff_ne.2 c3
  by_cases c4 : dk = 4
  · subst c4
    have e41 : ((4 : Int) == 1) = false := rfl
    have e42 : ((4 : Int) == 2) = false := rfl
    have e43 : ((4 : Int) == 3) = false := rfl
    have e44 : ((4 : Int) == 4) = true := rfl
    have hQ := HT.out.shut HEK.out W0 HB0.out
    skip
    try simp only [ncell, pv] at hQ
    have HQ := Lib.hid hQ
    clear hQ
    have HF3 : Hid (RR = false) := Lib.hid (by rw [← HRR.out]; exact bStep_false (by rw [HEK.out]; omega))
    go_wp2_with fail
    refine HQ.out.mono ?_
    rintro e wq ⟨rfl, hp⟩
    have HP := Lib.hid hp
    clear hp HQ m0 m1 m2 m3 m4 m5 m6 m7 m8 m9 m10 m11 m12 m13 m14
    go_wp2_with fail
    go_ret
    exact ⟨ret_bool HF3.out.symm, HP.out⟩
  have d4 : (dk == 4) = false := beq_eq_false_iff_ne.2 c4
  by_cases c5 : dk = 5
  · subst c5
    have e51 : ((5 : Int) == 1) = false := rfl
    have e52 : ((5 : Int) == 2) = false := rfl
    have e53 : ((5 : Int) == 3) = false := rfl
    have e54 : ((5 : Int) == 4) = false := rfl
    have e55 : ((5 : Int) == 5) = true := rfl
    have hQ := HT.out.text HEK.out W0 HB0.out
    rw [HEN.out] at hQ
    try simp only [ncell, pv] at hQ
    have HQ := Lib.hid hQ
    clear hQ
    have HF3 : Hid (RR = false) := Lib.hid (by rw [← HRR.out]; exact bStep_false (by rw [HEK.out]; omega))
    go_wp2_with fail
    refine HQ.out.mono ?_
    rintro e wq ⟨rfl, hp⟩
    have HP := Lib.hid hp
    clear hp HQ m0 m1 m2 m3 m4 m5 m6 m7 m8 m9 m10 m11 m12 m13 m14
    go_wp2_with fail
    go_ret
    exact ⟨ret_bool HF3.out.symm, HP.out⟩
  have d5 : (dk == 5) = false := beq_eq_false_iff_ne.2 c5
  by_cases c6 : dk = 6
  · subst c6
    have e61 : ((6 : Int) == 1) = false := rfl
    have e62 : ((6 : Int) == 2) = false := rfl
    have e63 : ((6 : Int) == 3) = false := rfl
    have e64 : ((6 : Int) == 4) = false := rfl
    have e65 : ((6 : Int) == 5) = false := rfl
    have e66 : ((6 : Int) == 6) = true := rfl
    have hQ := HT.out.nd HEK.out W0 HB0.out
    skip
    try simp only [ncell, pv] at hQ
    have HQ := Lib.hid hQ
    clear hQ
    have HF3 : Hid (RR = false) := Lib.hid (by rw [← HRR.out]; exact bStep_false (by rw [HEK.out]; omega))
    go_wp2_with fail
    refine HQ.out.mono ?_
    rintro e wq ⟨rfl, hp⟩
    have HP := Lib.hid hp
    clear hp HQ m0 m1 m2 m3 m4 m5 m6 m7 m8 m9 m10 m11 m12 m13 m14
    go_wp2_with fail
    go_ret
    exact ⟨ret_bool HF3.out.symm, HP.out⟩
  have d6 : (dk == 6) = false := beq_eq_false_iff_ne.2 c6
  have hQ := HT.out.add (by rw [HEK.out]; exact c1) (by rw [HEK.out]; exact c2) (by rw [HEK.out]; exact c3) (by rw [HEK.out]; exact c4) (by rw [HEK.out]; exact c5) (by rw [HEK.out]; exact c6) W0 HB0.out
  skip
  try simp only [ncell, pv] at hQ
  have HQ := Lib.hid hQ
  clear hQ
  have HF3 : Hid (RR = false) := Lib.hid (by rw [← HRR.out]; exact bStep_false (by rw [HEK.out]; exact c3))
  go_wp2_with fail
  refine HQ.out.mono ?_
  rintro e wq ⟨rfl, hp⟩
  have HP := Lib.hid hp
  clear hp HQ m0 m1 m2 m3 m4 m5 m6 m7 m8 m9 m10 m11 m12 m13 m14
  go_wp2_with fail
  go_ret
  exact ⟨ret_bool HF3.out.symm, HP.out⟩
end Go.Proofs.YtpccjgoeoeehoaaDoor
namespace Go.Proofs.YtpccjgoeoeehoaaDoor
open Go.RowKit
structure Exq (X : Nat → Prop) (w w' : World) : Prop where
  os : w'.os = w.os
  tape : w'.tape = w.tape
  output : w'.output = w.output
  size : w.heap.size ≤ w'.heap.size
  block : ∀ k, k < w.heap.size → ¬ X k → w'.heap[k]? = w.heap[k]?
theorem Exq.below {X : Nat → Prop} {w w' : World} {D : Nat} (h : Exq X w w') (hD : D ≤ w.heap.size) (hX : ∀ b, X b → D ≤ b) : Below D w w' :=
  ⟨h.os, h.tape, h.output, h.size, fun k hk => h.block k (Nat.lt_of_lt_of_le hk hD) (fun q => by have := hX k q; omega)⟩
theorem Exq.pre {X : Nat → Prop} {w W w' : World} (hb : Below w.heap.size w W) (h : Exq X W w') : Exq X w w' :=
  ⟨h.os.trans hb.os, h.tape.trans hb.tape, h.output.trans hb.output, Nat.le_trans hb.size h.size, fun k hk hx => (h.block k (Nat.lt_of_lt_of_le hk hb.size) hx).trans (hb.block k hk)⟩
theorem Exq.kp {X S : Nat → Prop} {w w' : World} (h : Exq X w w') (hS : ∀ k, S k → k < w.heap.size ∧ ¬ X k) : Kp S w w' := fun k q => h.block k (hS k q).1 (hS k q).2
def bt0 : Bt := ⟨⟨[], [], [], []⟩, [], [], [], 0, false⟩
abbrev BIT := (Nat → Prop) → (Nat → Prop) → World → Nat → Bt → Prop
def Aft (BI : BIT) (X R S : Nat → Prop) (w : World) (b : Nat) (t' : Bt) (w' : World) : Prop :=
  ∃ X' R', BI X' R' w' b t' ∧ Exq X w w' ∧ (∀ k, X' k → X k ∨ w.heap.size ≤ k) ∧ (∀ k, R' k → R k ∨ S k ∨ X k ∨ w.heap.size ≤ k)
abbrev ptrV (b : Nat) : Value := .pointer (some ⟨b, 0, none⟩)
structure Impl (BI : BIT) (TB : World → Prop) : Prop where
  lt : ∀ {X R w b t}, BI X R w b t → ∀ k, X k ∨ R k → k < w.heap.size
  keep : ∀ {X R w w' b t}, BI X R w b t → Kp X w w' → Kp R w w' → w.heap.size ≤ w'.heap.size → BI X R w' b t
  new : ∀ w, Calls Tryd.prog 10 #[] w fun e w' => ∃ b X, e = .returned (ptrV b) ∧ BI X (fun _ => False) w' b bt0 ∧ Below w.heap.size w w' ∧ ∀ k, X k → w.heap.size ≤ k
  title : ∀ {X R w b t} (n0 n1 n2 n3 : List UInt8), BI X R w b t → TB w → Calls Tryd.prog 28 #[ptrV b, .string ⟨n0.toArray⟩, .string ⟨n1.toArray⟩, .string ⟨n2.toArray⟩, .string ⟨n3.toArray⟩] w fun e w' => e = .returned (.tuple #[]) ∧ Aft BI X R (fun _ => False) w b { t with nm := ⟨n0, n1, n2, n3⟩ } w'
  opn : ∀ {X R S w b t nv y}, BI X R w b t → TB w → NdIs S w nv y → (∀ k, S k → k < w.heap.size ∧ ¬ X k) → btl t + nlN y ≤ 30000 → Calls Tryd.prog 30 #[ptrV b, .agg (ncell nv).toArray] w fun e w' => e = .returned (.tuple #[]) ∧ Aft BI X R S w b (bOpen t y) w'
  add : ∀ {X R S w b t nv y}, BI X R w b t → TB w → NdIs S w nv y → (∀ k, S k → k < w.heap.size ∧ ¬ X k) → btl t + nlN y ≤ 30000 → Calls Tryd.prog 20 #[ptrV b, .agg (ncell nv).toArray] w fun e w' => e = .returned (.tuple #[]) ∧ Aft BI X R S w b (bAdd t y) w'
  close : ∀ {X R w b t} (k : Int), BI X R w b t → TB w → btl t ≤ 30000 → Calls Tryd.prog 27 #[ptrV b, .int .i64 k] w fun e w' => e = .returned (.bool (bClose t k).2) ∧ Aft BI X R (fun _ => False) w b (bClose t k).1 w'
  shut : ∀ {X R S w b t v} (K : List Int), BI X R w b t → TB w → FsS S 1 icell w v K → (∀ k, S k → k < w.heap.size ∧ ¬ X k) → K.length ≤ 30000 → btl t ≤ 30000 → Calls Tryd.prog 23 #[ptrV b, v] w fun e w' => e = .returned (.tuple #[]) ∧ Aft BI X R S w b (bShut t K) w'
  text : ∀ {X R S w b t v} (g : List Gly) (i : Int), BI X R w b t → TB w → FsS S 2 gcell w v g → (∀ k, S k → k < w.heap.size ∧ ¬ X k) → btl t + g.length ≤ 30000 → Calls Tryd.prog 24 #[ptrV b, v, .int .i64 i] w fun e w' => e = .returned (.tuple #[]) ∧ Aft BI X R S w b (bText t g i) w'
  nd : ∀ {X R w b t}, BI X R w b t → TB w → btl t ≤ 30000 → Calls Tryd.prog 22 #[ptrV b] w fun e w' => e = .returned (.tuple #[]) ∧ Aft BI X R (fun _ => False) w b (bEnd t) w'
  depth : ∀ {X R w b t}, BI X R w b t → TB w → Calls Tryd.prog 13 #[ptrV b] w fun e w' => e = .returned (.int .i64 (t.opn.length : Int)) ∧ Below w.heap.size w w'
  inside : ∀ {X R w b t} (k : Int), BI X R w b t → TB w → btl t ≤ 30000 → Calls Tryd.prog 14 #[ptrV b, .int .i64 k] w fun e w' => e = .returned (.bool (bIn t k)) ∧ Below w.heap.size w w'
  doc : ∀ {X R w b t}, BI X R w b t → TB w → btl t ≤ 30000 → Calls Tryd.prog 17 #[ptrV b] w fun e w' => ∃ s : PV, e = .returned (docV t.nm (pv s)) ∧ NsS (fun k => w.heap.size ≤ k ∧ k < w'.heap.size) w' (pv s) (bDoc t) ∧ Below w.heap.size w w'
  tb : ∀ {w w'}, TB w → Below w.heap.size w w' → TB w'
theorem Aft.pre {BI : BIT} {X R S S' : Nat → Prop} {w W w' : World} {b : Nat} {t' : Bt} (hb : Below w.heap.size w W) (hS : ∀ k, S k → S' k) (h : Aft BI X R S W b t' w') : Aft BI X R S' w b t' w' := by
  obtain ⟨X', R', h1, h2, h3, h4⟩ := h
  exact ⟨X', R', h1, h2.pre hb, fun k q => (h3 k q).imp id (fun z => Nat.le_trans hb.size z), fun k q => (h4 k q).imp id (fun z => z.imp (hS k) (fun z => z.imp id (fun z => Nat.le_trans hb.size z)))⟩
theorem Impl.told {BI : BIT} {TB : World → Prop} (I : Impl BI TB) {X R S : Nat → Prop} {w : World} {b : Nat} {t : Bt} {dv : DV} {d : Dd} (h : BI X R w b t) (hT : TB w) (hd : DdIs S w dv d) (hS : ∀ k, S k → k < w.heap.size ∧ ¬ X k) (hb : btl t + ddl d ≤ 30000) :
    Told (Aft BI X R S w b) (ptrV b) t dv d w := by
  have K : ∀ W, Below w.heap.size w W → BI X R W b t := fun W q => I.keep h (Kp.below q (fun k z => I.lt h k (.inl z))) (Kp.below q (fun k z => I.lt h k (.inr z))) q.size
  have D : ∀ W, Below w.heap.size w W → DdIs S W dv d := fun W q => hd.keep (Kp.below q (fun k z => (hS k z).1))
  have SS : ∀ W, Below w.heap.size w W → ∀ k, S k → k < W.heap.size ∧ ¬ X k := fun W q k z => ⟨Nat.lt_of_lt_of_le (hS k z).1 q.size, (hS k z).2⟩
  have hdd : ddl d = 2 + d.g.length + d.l.length + nlN d.x := rfl
  have F : ∀ k : Nat, (fun _ : Nat => False) k → S k := fun _ q => q.elim
  refine ⟨fun e W q => ?_, fun e W q => ?_, fun e W q => ?_, fun e W q => ?_, fun e W q => ?_, fun e W q => ?_, fun e1 e2 e3 e4 e5 e6 W q => ?_⟩
  · have hs : (bStep t d).1 = { t with nm := ⟨nameAt d.s 0, nameAt d.s 1, nameAt d.s 2, nameAt d.s 3⟩ } := by unfold bStep; rw [if_pos e]
    rw [hs]
    refine (I.title _ _ _ _ (K W q) (I.tb hT q)).mono fun e w' ⟨h1, h2⟩ => ⟨h1, h2.pre q F, fun k hk1 hk2 => ?_⟩
    obtain ⟨X', R', -, h4, -, -⟩ := h2
    exact h4.block k hk2 (fun z => by have := I.lt h k (.inl z); omega)
  · have hs : (bStep t d).1 = bOpen t d.x := by unfold bStep; rw [if_neg (by omega), if_pos e]
    rw [hs]
    exact (I.opn (K W q) (I.tb hT q) (D W q).x (SS W q) (by omega)).mono fun e w' ⟨h1, h2⟩ => ⟨h1, h2.pre q (fun _ z => z)⟩
  · have hs : bStep t d = bClose t d.n := by unfold bStep; rw [if_neg (by omega), if_neg (by omega), if_pos e]
    rw [hs]
    exact (I.close _ (K W q) (I.tb hT q) (by omega)).mono fun e w' ⟨h1, h2⟩ => ⟨h1, h2.pre q F⟩
  · have hs : (bStep t d).1 = bShut t d.l := by unfold bStep; rw [if_neg (by omega), if_neg (by omega), if_neg (by omega), if_pos e]
    rw [hs]
    exact (I.shut d.l (K W q) (I.tb hT q) (D W q).l (SS W q) (by omega) (by omega)).mono fun e w' ⟨h1, h2⟩ => ⟨h1, h2.pre q (fun _ z => z)⟩
  · have hs : (bStep t d).1 = bText t d.g d.n := by unfold bStep; rw [if_neg (by omega), if_neg (by omega), if_neg (by omega), if_neg (by omega), if_pos e]
    rw [hs]
    exact (I.text d.g d.n (K W q) (I.tb hT q) (D W q).g (SS W q) (by omega)).mono fun e w' ⟨h1, h2⟩ => ⟨h1, h2.pre q (fun _ z => z)⟩
  · have hs : (bStep t d).1 = bEnd t := by unfold bStep; rw [if_neg (by omega), if_neg (by omega), if_neg (by omega), if_neg (by omega), if_neg (by omega), if_pos e]
    rw [hs]
    exact (I.nd (K W q) (I.tb hT q) (by omega)).mono fun e w' ⟨h1, h2⟩ => ⟨h1, h2.pre q F⟩
  · have hs : (bStep t d).1 = bAdd t d.x := by unfold bStep; rw [if_neg e1, if_neg e2, if_neg e3, if_neg e4, if_neg e5, if_neg e6]
    rw [hs]
    exact (I.add (K W q) (I.tb hT q) (D W q).x (SS W q) (by omega)).mono fun e w' ⟨h1, h2⟩ => ⟨h1, h2.pre q (fun _ z => z)⟩
theorem btl_step (t : Bt) (d : Dd) : btl (bStep t d).1 ≤ btl t + ddl d + 3 := by
  have hdd : ddl d = 2 + d.g.length + d.l.length + nlN d.x := rfl
  have h1 := btl_open t d.x
  have h2 := btl_close t d.n
  have h3 := btl_shut t d.l
  have h4 := btl_text t d.g d.n
  have h5 := btl_end t
  have h6 := btl_add t d.x
  have h7 : btl { t with nm := ⟨nameAt d.s 0, nameAt d.s 1, nameAt d.s 2, nameAt d.s 3⟩ } = btl t := rfl
  unfold bStep
  repeat' split
  all_goals first | omega | (simp only; omega)
end Go.Proofs.YtpccjgoeoeehoaaDoor
namespace Go.Proofs.YtpccjgoeoeehoaaDoor
open Go.RowKit
def blcell (b : Bool) : List Value := [.bool b]
theorem blcell_len (b : Bool) : (blcell b).length = 1 := rfl
end Go.Proofs.YtpccjgoeoeehoaaDoor
