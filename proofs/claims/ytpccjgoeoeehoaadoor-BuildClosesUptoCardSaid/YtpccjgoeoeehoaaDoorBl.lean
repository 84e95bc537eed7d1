/- The laws' known, over whatever a builder keeps. The walk of BuildCloses, over whatever a builder keeps. -/
import Derived.Test.YtpccjgoeoeehoaaDoorC5
import Derived.Test.YtpccjgoeoeehoaaDoorBs
import Derived.Deep.RegionHeld3
import Derived.Test.YtpccjgoeoeehoaaDoorBm
set_option linter.unusedVariables false
set_option linter.unusedSimpArgs false
namespace Go.Proofs.YtpccjgoeoeehoaaDoor
open Go.RowKit
theorem ns_lit8 {S : Nat → Prop} (w : World) (L : List NV) (l : List Nd) (hl : L.length = l.length) (hS : ∀ b, S b → b < w.heap.size) (hh : ∀ (i : Nat) x y, L[i]? = some x → l[i]? = some y → HdIs S w x y.hd ∧ NsS S w (pv x.kids) y.kids) :
    NsS (fun b => S b ∨ b = w.heap.size) (w.alloc (.cells (flatV ncell L).toArray 40)) (.slice (some ⟨w.heap.size, 0, none⟩) L.length L.length) l := by
  have hk : Kp S w (w.alloc (.cells (flatV ncell L).toArray 40)) := Kp.below (below_lit w _) hS
  refine .mk _ _ L hl ⟨fs_lit ncell_len w _ L, fun a k c e _ => ?_⟩ (fun i x y a b => ((hh i x y a b).1.keep hk).mono (fun b q => .inl q)) (fun i x y a b => ((hh i x y a b).2.keep hk).mono (fun b q => .inl q))
  injection e with e1
  injection e1 with e1
  subst e1
  exact ⟨.inr rfl, fun _ i _ => by
    have h := heap_alloc_new w (.cells (flatV ncell L).toArray 40)
    simp only [World.frozen?, h]
    simp⟩
theorem one_at8 {α β : Type} {x x' : α} {y y' : β} {i : Nat} (h : [x][i]? = some x') (k : [y][i]? = some y') : x = x' ∧ y = y' := by
  match i with
  | 0 => simp at h k; exact ⟨h, k⟩
  | i + 1 => simp at h
def gl8 (r : Int) : List Gly := [(r, 0)]
theorem gly8 (W : World) (r : Int) : FsS (fun k => k = W.heap.size) 2 gcell (W.alloc (.cells #[.int .i32 r, .int .u8 0] 56)) (.slice (some ⟨W.heap.size, 0, none⟩) 1 1) (gl8 r) := by
  refine ⟨fs_lit gcell_len W 56 (gl8 r), fun a k c e _ => ?_⟩
  injection e with e1
  injection e1 with e1
  subst e1
  exact ⟨rfl, fun _ i _ => by
    have h := heap_alloc_new W (.cells #[.int .i32 r, .int .u8 0] 56)
    simp only [World.frozen?, h]
    simp⟩
def ab8 : List Gly := [(97, 0), (32, 0), (98, 0)]
theorem glys8 (W : World) : FsS (fun k => k = W.heap.size) 2 gcell (W.alloc (.cells #[.int .i32 97, .int .u8 0, .int .i32 32, .int .u8 0, .int .i32 98, .int .u8 0] 56)) (.slice (some ⟨W.heap.size, 0, none⟩) 3 3) ab8 := by
  refine ⟨fs_lit gcell_len W 56 ab8, fun a k c e _ => ?_⟩
  injection e with e1
  injection e1 with e1
  subst e1
  exact ⟨rfl, fun _ i _ => by
    have h := heap_alloc_new W (.cells #[.int .i32 97, .int .u8 0, .int .i32 32, .int .u8 0, .int .i32 98, .int .u8 0] 56)
    simp only [World.frozen?, h]
    simp⟩
def hd8 (k ln : Int) (t : List Gly) : Hd := ⟨k, ln, 0, t, [], noGrid⟩
def y8 : Nd := .mk (hd8 1 0 (gl8 120)) []
def t8 : Bt := bText (bText (bOpen bt0 y8) (gl8 97) 4) (gl8 98) 5
def want8 : List Nd := [.mk (hd8 1 0 (gl8 120)) [.mk (hd8 3 4 ab8) []]]
theorem all8 : bAll (bEnd t8) = want8 := by rfl
theorem doc8 : bDoc t8 = want8 := by
  unfold bDoc
  rw [all8]
  unfold tidyL want8
  simp only [tdL_cons, tdL_nil, tdN_mk]
  rfl
theorem nm8 : t8.nm = ⟨[], [], [], []⟩ := rfl
theorem opn8 : t8.opn.length = 1 := rfl
def nv8 (k ln : Int) (t s : PV) : NV := ⟨k, ln, 0, t, s, (none, 0, 0), [], (none, 0, 0), false, false⟩
theorem hdis8 {S : Nat → Prop} {w : World} (k ln : Int) {t s : PV} {g : List Gly} (h : FsS S 2 gcell w (pv t) g) : HdIs S w (nv8 k ln t s) (hd8 k ln g) := ⟨rfl, rfl, rfl, h, GrS.nil _ _, rfl, TrS.nil _ _, rfl, rfl⟩
/-- What is wanted, as the law builds it. -/
theorem want_is (W0 W4 : World) (h : W4 = (((W0.alloc (.cells #[.int .i32 120, .int .u8 0] 56)).alloc (.cells #[.int .i32 97, .int .u8 0, .int .i32 32, .int .u8 0, .int .i32 98, .int .u8 0] 56)).alloc (.cells #[.int .i64 3, .int .i64 4, .int .i64 0, .slice (some ⟨W0.heap.size + 1, 0, none⟩) 3 3, .slice none 0 0, .slice none 0 0, .string ⟨#[]⟩, .slice none 0 0, .bool false, .bool false] 40)).alloc (.cells #[.int .i64 1, .int .i64 0, .int .i64 0, .slice (some ⟨W0.heap.size, 0, none⟩) 1 1, .slice (some ⟨W0.heap.size + 1 + 1, 0, none⟩) 1 1, .slice none 0 0, .string ⟨#[]⟩, .slice none 0 0, .bool false, .bool false] 40)) :
    NsS (fun b => b < W4.heap.size) W4 (.slice (some ⟨W0.heap.size + 1 + 1 + 1, 0, none⟩) 1 1) want8 ∧ Below W0.heap.size W0 W4 := by
  obtain ⟨W1, hW1⟩ : ∃ W, W = W0.alloc (.cells #[.int .i32 120, .int .u8 0] 56) := ⟨_, rfl⟩
  have z1 : W1.heap.size = W0.heap.size + 1 := by rw [hW1, World.size_alloc]
  have b1 : Below W0.heap.size W0 W1 := by rw [hW1]; exact below_lit _ _
  have g1 := gly8 W0 120
  rw [← hW1] at g1 h
  obtain ⟨W2, hW2⟩ : ∃ W, W = W1.alloc (.cells #[.int .i32 97, .int .u8 0, .int .i32 32, .int .u8 0, .int .i32 98, .int .u8 0] 56) := ⟨_, rfl⟩
  have z2 : W2.heap.size = W1.heap.size + 1 := by rw [hW2, World.size_alloc]
  have b2 : Below W1.heap.size W1 W2 := by rw [hW2]; exact below_lit _ _
  have g2 := glys8 W1
  rw [← hW2] at g2 h
  have g1' : FsS (fun b => b < W2.heap.size) 2 gcell W2 (.slice (some ⟨W0.heap.size, 0, none⟩) 1 1) (gl8 120) := (g1.keep (Kp.below b2 (fun b q => by omega))).mono (fun b q => by omega)
  have g2' : FsS (fun b => b < W2.heap.size) 2 gcell W2 (.slice (some ⟨W1.heap.size, 0, none⟩) 3 3) ab8 := g2.mono (fun b q => by omega)
  obtain ⟨W3, hW3⟩ : ∃ W, W = W2.alloc (.cells (flatV ncell [nv8 3 4 (some ⟨W1.heap.size, 0, none⟩, 3, 3) (none, 0, 0)]).toArray 40) := ⟨_, rfl⟩
  have z3 : W3.heap.size = W2.heap.size + 1 := by rw [hW3, World.size_alloc]
  have b3 : Below W2.heap.size W2 W3 := by rw [hW3]; exact below_lit _ _
  have hN3 : NsS (fun b => b < W3.heap.size) W3 (.slice (some ⟨W2.heap.size, 0, none⟩) 1 1) [.mk (hd8 3 4 ab8) []] := by
    have := ns_lit8 W2 [nv8 3 4 (some ⟨W1.heap.size, 0, none⟩, 3, 3) (none, 0, 0)] [.mk (hd8 3 4 ab8) []] rfl (fun b q => q) (fun i x y a b => by
      obtain ⟨rfl, rfl⟩ := one_at8 a b
      exact ⟨hdis8 3 4 g2', NsS.nil _ _⟩)
    rw [← hW3] at this
    exact this.mono (fun b q => by rcases q with q | q <;> omega)
  have g3 : FsS (fun b => b < W3.heap.size) 2 gcell W3 (.slice (some ⟨W0.heap.size, 0, none⟩) 1 1) (gl8 120) := (g1'.keep (Kp.below b3 (fun b q => q))).mono (fun b q => by omega)
  have h4 : W4 = W3.alloc (.cells (flatV ncell [nv8 1 0 (some ⟨W0.heap.size, 0, none⟩, 1, 1) (some ⟨W2.heap.size, 0, none⟩, 1, 1)]).toArray 40) := by
    rw [h, hW3, z2, z1]
    rfl
  have z4 : W4.heap.size = W3.heap.size + 1 := by rw [h4, World.size_alloc]
  have b4 : Below W3.heap.size W3 W4 := by rw [h4]; exact below_lit _ _
  have hN4 : NsS (fun b => b < W4.heap.size) W4 (.slice (some ⟨W3.heap.size, 0, none⟩) 1 1) want8 := by
    have := ns_lit8 W3 [nv8 1 0 (some ⟨W0.heap.size, 0, none⟩, 1, 1) (some ⟨W2.heap.size, 0, none⟩, 1, 1)] want8 rfl (fun b q => q) (fun i x y a b => by
      obtain ⟨rfl, rfl⟩ := one_at8 a b
      exact ⟨hdis8 1 0 g3, hN3⟩)
    rw [← h4] at this
    exact this.mono (fun b q => by rcases q with q | q <;> omega)
  rw [show W3.heap.size = W0.heap.size + 1 + 1 + 1 by omega] at hN4
  exact ⟨hN4, b1.trans ((b2.trans ((b3.trans (b4.mono (by omega))).mono (by omega))).mono (by omega))⟩
set_option maxRecDepth 100000 in
set_option maxHeartbeats 8000000 in
theorem bknown_any (BI : BIT) (TB : World → Prop) (I : Impl BI TB) (hNil : ∀ W, TB W → Calls Tryd.prog 13 #[.pointer none] W fun e w' => e = .returned (.int .i64 0) ∧ Below W.heap.size W w') (w : World) (hTB : TB w) :
    Calls Tryd.prog 9 #[] w fun e w' => e = .returned (.bool true) ∧ Below w.heap.size w w' := by
  have HTB := Lib.hid hTB
  have HNI := Lib.hid hNil
  clear hTB hNil
  have HNW := Lib.hid (I.new w)
  go_enter Tryd.func9, Tryd.ntmps9
  go_wp2_with fail
  refine HNW.out.mono ?_
  rintro e w2 ⟨b, X, rfl, h1, h2, h3⟩
  have HBI := Lib.hid h1
  have HBW := Lib.hid h2
  have HX := Lib.hid h3
  clear h1 h2 h3 HNW
  obtain ⟨we, hwe⟩ : ∃ W : World, W = w2 := ⟨_, rfl⟩
  rw [← hwe] at HBI HBW ⊢
  clear hwe
  obtain ⟨X7, hX7⟩ : ∃ Y, Y = we.alloc (.cells #[.int .i32 120, .int .u8 0] 56) := ⟨_, rfl⟩
  have b7 : Below we.heap.size we X7 := by rw [hX7]; exact below_lit _ _
  have hz7 : X7.heap.size = we.heap.size + 1 := by rw [hX7, World.size_alloc]
  have hI9 := gly8 we 120
  rw [← hX7] at hI9
  have hlt7 : ∀ k, _ → k < we.heap.size := fun k z => I.lt HBI.out k (.inl z)
  have hBIn := I.keep HBI.out (Kp.below b7 (fun k q => I.lt HBI.out k (.inl q))) (Kp.below b7 (fun k q => I.lt HBI.out k (.inr q))) b7.size
  have hBWn := HBW.out.trans (b7.mono HBW.out.size)
  clear HBI HBW
  have HBI := Lib.hid hBIn
  have HBW := Lib.hid hBWn
  clear hBIn hBWn
  have hcl := I.opn (nv := nv8 1 0 (some ⟨we.heap.size, 0, none⟩, 1, 1) (none, 0, 0)) (y := y8) HBI.out (I.tb HTB.out HBW.out) ⟨hdis8 1 0 hI9, NsS.nil _ _⟩ (fun k z => ⟨by omega, fun z2 => by have := hlt7 k z2; omega⟩) (by decide)
  have HCL := Lib.hid hcl
  have HX7 := Lib.hid hX7
  clear hX7 b7 hz7 hI9 hlt7 hcl
  go_wp2_with fail
  rw [← HX7.out]
  clear HX7
  refine HCL.out.mono ?_
  rintro e we ⟨rfl, X2, R2, g1, g2, g3, g4⟩
  have hBWn := g2.below HBW.out.size HX.out
  have hX2w : ∀ k, X2 k → w.heap.size ≤ k := fun k q => (g3 k q).elim (HX.out k) (fun z => Nat.le_trans HBW.out.size z)
  have hBW2 := HBW.out.trans hBWn
  clear HBI HBW HX
  have HBI := Lib.hid g1
  have HBW := Lib.hid hBW2
  have HX := Lib.hid hX2w
  clear g1 g2 g3 g4 hBWn hX2w hBW2 HCL
  obtain ⟨X7, hX7⟩ : ∃ Y, Y = we.alloc (.cells #[.int .i32 97, .int .u8 0] 56) := ⟨_, rfl⟩
  have b7 : Below we.heap.size we X7 := by rw [hX7]; exact below_lit _ _
  have hz7 : X7.heap.size = we.heap.size + 1 := by rw [hX7, World.size_alloc]
  have hI9 := gly8 we 97
  rw [← hX7] at hI9
  have hlt7 : ∀ k, _ → k < we.heap.size := fun k z => I.lt HBI.out k (.inl z)
  have hBIn := I.keep HBI.out (Kp.below b7 (fun k q => I.lt HBI.out k (.inl q))) (Kp.below b7 (fun k q => I.lt HBI.out k (.inr q))) b7.size
  have hBWn := HBW.out.trans (b7.mono HBW.out.size)
  clear HBI HBW
  have HBI := Lib.hid hBIn
  have HBW := Lib.hid hBWn
  clear hBIn hBWn
  have hcl := I.text (gl8 97) 4 HBI.out (I.tb HTB.out HBW.out) hI9 (fun k z => ⟨by omega, fun z2 => by have := hlt7 k z2; omega⟩) (by decide)
  have HCL := Lib.hid hcl
  have HX7 := Lib.hid hX7
  clear hX7 b7 hz7 hI9 hlt7 hcl
  go_wp2_with fail
  rw [← HX7.out]
  clear HX7
  refine HCL.out.mono ?_
  rintro e we ⟨rfl, X2, R2, g1, g2, g3, g4⟩
  have hBWn := g2.below HBW.out.size HX.out
  have hX2w : ∀ k, X2 k → w.heap.size ≤ k := fun k q => (g3 k q).elim (HX.out k) (fun z => Nat.le_trans HBW.out.size z)
  have hBW2 := HBW.out.trans hBWn
  clear HBI HBW HX
  have HBI := Lib.hid g1
  have HBW := Lib.hid hBW2
  have HX := Lib.hid hX2w
  clear g1 g2 g3 g4 hBWn hX2w hBW2 HCL
  obtain ⟨X7, hX7⟩ : ∃ Y, Y = we.alloc (.cells #[.int .i32 98, .int .u8 0] 56) := ⟨_, rfl⟩
  have b7 : Below we.heap.size we X7 := by rw [hX7]; exact below_lit _ _
  have hz7 : X7.heap.size = we.heap.size + 1 := by rw [hX7, World.size_alloc]
  have hI9 := gly8 we 98
  rw [← hX7] at hI9
  have hlt7 : ∀ k, _ → k < we.heap.size := fun k z => I.lt HBI.out k (.inl z)
  have hBIn := I.keep HBI.out (Kp.below b7 (fun k q => I.lt HBI.out k (.inl q))) (Kp.below b7 (fun k q => I.lt HBI.out k (.inr q))) b7.size
  have hBWn := HBW.out.trans (b7.mono HBW.out.size)
  clear HBI HBW
  have HBI := Lib.hid hBIn
  have HBW := Lib.hid hBWn
  clear hBIn hBWn
  have hcl := I.text (gl8 98) 5 HBI.out (I.tb HTB.out HBW.out) hI9 (fun k z => ⟨by omega, fun z2 => by have := hlt7 k z2; omega⟩) (by decide)
  have HCL := Lib.hid hcl
  have HX7 := Lib.hid hX7
  clear hX7 b7 hz7 hI9 hlt7 hcl
  go_wp2_with fail
  rw [← HX7.out]
  clear HX7
  refine HCL.out.mono ?_
  rintro e we ⟨rfl, X2, R2, g1, g2, g3, g4⟩
  have hBWn := g2.below HBW.out.size HX.out
  have hX2w : ∀ k, X2 k → w.heap.size ≤ k := fun k q => (g3 k q).elim (HX.out k) (fun z => Nat.le_trans HBW.out.size z)
  have hBW2 := HBW.out.trans hBWn
  clear HBI HBW HX
  have HBI := Lib.hid g1
  have HBW := Lib.hid hBW2
  have HX := Lib.hid hX2w
  clear g1 g2 g3 g4 hBWn hX2w hBW2 HCL
  have HBI8 : Hid (BI X2 R2 we b t8) := HBI
  clear HBI
  have HBI := HBI8
  clear HBI8
  have hdc := I.doc HBI.out (I.tb HTB.out HBW.out) (by decide)
  rw [nm8, doc8] at hdc
  unfold docV docL at hdc
  have HDC := Lib.hid hdc
  clear hdc
  go_wp2_with fail
  refine HDC.out.mono ?_
  rintro e wd ⟨⟨s1, s2, s3⟩, rfl, hn1, hbd⟩
  simp only [pv] at hn1 ⊢
  clear HDC
  have hBIn := I.keep HBI.out (Kp.below hbd (fun k q => I.lt HBI.out k (.inl q))) (Kp.below hbd (fun k q => I.lt HBI.out k (.inr q))) hbd.size
  have hBWn := HBW.out.trans (hbd.mono HBW.out.size)
  clear HBI HBW
  have HBI := Lib.hid hBIn
  have HBW := Lib.hid hBWn
  clear hBIn hBWn
  obtain ⟨X5, hX5⟩ : ∃ Y, Y = wd.alloc (.cells #[.string ⟨#[]⟩, .string ⟨#[]⟩, .string ⟨#[]⟩, .string ⟨#[]⟩, .slice s1 s2 s3] 29) := ⟨_, rfl⟩
  have b5 : Below wd.heap.size wd X5 := by rw [hX5]; exact below_lit _ _
  obtain ⟨o1, ho1⟩ : ∃ q, wd.heap.size = q := ⟨_, rfl⟩
  have hKD : Blk X5 o1 29 [.string ⟨#[]⟩, .string ⟨#[]⟩, .string ⟨#[]⟩, .string ⟨#[]⟩, .slice s1 s2 s3] := by rw [← ho1, hX5]; exact heap_alloc_new wd _
  have hN5 : NsS (fun k => k < X5.heap.size) X5 (.slice s1 s2 s3) want8 := (hn1.keep (Kp.below b5 (fun k q => q.2))).mono (fun k q => Nat.lt_of_lt_of_le q.2 b5.size)
  have hBIn := I.keep HBI.out (Kp.below b5 (fun k q => I.lt HBI.out k (.inl q))) (Kp.below b5 (fun k q => I.lt HBI.out k (.inr q))) b5.size
  have hBWn := HBW.out.trans (b5.mono HBW.out.size)
  clear HBI HBW
  have HBI := Lib.hid hBIn
  have HBW := Lib.hid hBWn
  clear hBIn hBWn
  obtain ⟨X6, hX6⟩ : ∃ W4, W4 = (((X5.alloc (.cells #[.int .i32 120, .int .u8 0] 56)).alloc (.cells #[.int .i32 97, .int .u8 0, .int .i32 32, .int .u8 0, .int .i32 98, .int .u8 0] 56)).alloc (.cells #[.int .i64 3, .int .i64 4, .int .i64 0, .slice (some ⟨X5.heap.size + 1, 0, none⟩) 3 3, .slice none 0 0, .slice none 0 0, .string ⟨#[]⟩, .slice none 0 0, .bool false, .bool false] 40)).alloc (.cells #[.int .i64 1, .int .i64 0, .int .i64 0, .slice (some ⟨X5.heap.size, 0, none⟩) 1 1, .slice (some ⟨X5.heap.size + 1 + 1, 0, none⟩) 1 1, .slice none 0 0, .string ⟨#[]⟩, .slice none 0 0, .bool false, .bool false] 40) := ⟨_, rfl⟩
  obtain ⟨hw4, b6⟩ := want_is X5 X6 hX6
  have c4 : X6.cell? ⟨o1, 4, none⟩ = some (.slice s1 s2 s3) := (hKD.below b6).cell 4
  have hsm := rsame_any _ _ _ want8 want8 rfl (by decide) (by decide) _ _ X6 ((hN5.keep (Kp.below b6 (fun k q => q))).mono (T := fun k => k < X6.heap.size) (fun k q => Nat.lt_of_lt_of_le q b6.size)) hw4 (fun k q => q) (fun k q => q)
  rw [eqNs_true rfl] at hsm
  have HSM := Lib.hid hsm
  have hBIn := I.keep HBI.out (Kp.below b6 (fun k q => I.lt HBI.out k (.inl q))) (Kp.below b6 (fun k q => I.lt HBI.out k (.inr q))) b6.size
  have hBWn := HBW.out.trans (b6.mono HBW.out.size)
  clear HBI HBW
  have HBI := Lib.hid hBIn
  have HBW := Lib.hid hBWn
  clear hBIn hBWn
  have HX5 := Lib.hid hX5
  have HX6 := Lib.hid hX6
  have HO1 := Lib.hid ho1
  clear hn1 hbd hX5 b5 hKD hN5 hX6 hw4 b6 hsm ho1
  go_upto_region 6 with fail
  rw [← HX5.out]
  try rw [HO1.out]
  go_upto_region 8 with fail
  rw [← HX6.out]
  clear HX5 HX6 HO1
  go_wp2_with fail
  refine HSM.out.mono ?_
  rintro e w5 ⟨rfl, b7⟩
  clear HSM c4
  have hBIn := I.keep HBI.out (Kp.below b7 (fun k q => I.lt HBI.out k (.inl q))) (Kp.below b7 (fun k q => I.lt HBI.out k (.inr q))) b7.size
  have hBWn := HBW.out.trans (b7.mono HBW.out.size)
  clear HBI HBW
  have HBI := Lib.hid hBIn
  have HBW := Lib.hid hBWn
  clear hBIn hBWn
  clear b7
  have hdp := I.depth HBI.out (I.tb HTB.out HBW.out)
  rw [opn8] at hdp
  have HDP := Lib.hid hdp
  clear hdp
  go_wp2_with fail
  refine HDP.out.mono ?_
  rintro e w6 ⟨rfl, b8⟩
  clear HDP
  have hBIn := I.keep HBI.out (Kp.below b8 (fun k q => I.lt HBI.out k (.inl q))) (Kp.below b8 (fun k q => I.lt HBI.out k (.inr q))) b8.size
  have hBWn := HBW.out.trans (b8.mono HBW.out.size)
  clear HBI HBW
  have HBI := Lib.hid hBIn
  have HBW := Lib.hid hBWn
  clear hBIn hBWn
  clear b8
  have HDP := Lib.hid (HNI.out _ (I.tb HTB.out HBW.out))
  go_wp2_with fail
  refine HDP.out.mono ?_
  rintro e w7 ⟨rfl, b9⟩
  clear HDP
  have hBIn := I.keep HBI.out (Kp.below b9 (fun k q => I.lt HBI.out k (.inl q))) (Kp.below b9 (fun k q => I.lt HBI.out k (.inr q))) b9.size
  have hBWn := HBW.out.trans (b9.mono HBW.out.size)
  clear HBI HBW
  have HBI := Lib.hid hBIn
  have HBW := Lib.hid hBWn
  clear hBIn hBWn
  clear b9
  go_wp2_with fail
  go_ret
  exact ⟨rfl, HBW.out⟩
end Go.Proofs.YtpccjgoeoeehoaaDoor
namespace Go.Proofs.YtpccjgoeoeehoaaDoor
open Go.RowKit
theorem int1 (W : World) (k : Int) : FsS (fun k => k = W.heap.size) 1 icell (W.alloc (.cells #[.int .i64 k] 3)) (.slice (some ⟨W.heap.size, 0, none⟩) 1 1) [k] := by
  refine ⟨fs_lit icell_len W 3 [k], fun a k' c e _ => ?_⟩
  injection e with e1
  injection e1 with e1
  subst e1
  exact ⟨rfl, fun _ i _ => by
    have h := heap_alloc_new W (.cells #[.int .i64 k] 3)
    simp only [World.frozen?, h]
    simp⟩
attribute [local go_sem ↓ high] binop_eqT binop_neqT
set_option maxRecDepth 100000 in
set_option maxHeartbeats 16000000 in
theorem buildcloses_walk (BI : BIT) (TB : World → Prop) (I : Impl BI TB) (hK : ∀ W, TB W → Calls Tryd.prog 9 #[] W fun e w' => e = .returned (.bool true) ∧ Below W.heap.size W w') (hC : ∀ (S : Nat → Prop) (m : Nm) (l : List Nd) (v : Value) (w : World), nlL l ≤ 90000 → NsS S w v l → (∀ x, S x → x < w.heap.size) → Calls Tryd.prog 21 #[docV m v] w fun e w' => e = .returned (.int .i64 (checkL l)) ∧ Below w.heap.size w w') (l : List Dd) (v : Value) (kd : Int) (nm : List UInt8) (w : World) (hTB : TB w) (hv : DosS (fun k => k < w.heap.size) w v l) (hb : ddls l ≤ 1000000000) (hsl : ∀ d ∈ l, d.s.length ≤ 2000000) :
    Calls Tryd.prog 7 #[v, .int .i64 kd, .string ⟨nm.toArray⟩] w fun e w' => e = .returned (.bool true) ∧ Below w.heap.size w w' := by
  have HLG := Lib.hid (llong_any _ l v w (fun k q => q) hv hb)
  have hlf : longD l = false → ddls l ≤ 800 ∧ l.length ≤ 60 := longD_false
  obtain ⟨xg, hxg⟩ : ∃ x, longD l = x := ⟨_, rfl⟩
  rw [hxg] at HLG hlf
  have HV := Lib.hid hv
  have HTB := Lib.hid hTB
  have HSL := Lib.hid hsl
  have HLF := Lib.hid hlf
  have HK : Hid (∀ W, Below w.heap.size w W → Calls Tryd.prog 9 #[] W fun e w' => e = .returned (.bool true) ∧ Below w.heap.size w w') := Lib.hid (fun W q => (hK W (I.tb hTB q)).mono fun e w' ⟨e1, e2⟩ => ⟨e1, q.trans (e2.mono q.size)⟩)
  obtain ⟨va, vc, rfl⟩ := hv.len
  obtain ⟨ln, hln⟩ : ∃ n, l.length = n := ⟨_, rfl⟩
  have HLN := Lib.hid hln
  rw [hln] at HV HLG ⊢
  clear hv hTB hsl hlf hxg hln
  go_enter Tryd.func7, Tryd.ntmps7
  go_wp2_with fail
  refine HLG.out.mono ?_
  rintro e w1 ⟨rfl, hb1⟩
  have HB1 := Lib.hid hb1
  clear hb1 HLG
  cases xg with
  | true =>
    go_wp2_with fail
    refine (HK.out _ HB1.out).mono ?_
    rintro e w9 ⟨rfl, b9⟩
    have B9 := Lib.hid b9
    clear b9
    go_wp2_with fail
    go_ret
    exact ⟨rfl, B9.out⟩
  | false =>
    obtain ⟨hl1, hl2⟩ := HLF.out rfl
    rw [HLN.out] at hl2
    have HNW := Lib.hid (I.new w1)
    go_wp2_with fail
    refine HNW.out.mono ?_
    rintro e w2 ⟨b, X0, rfl, h1, h2, h3⟩
    have HBI0 := Lib.hid h1
    have HBW0 : Hid (Below w.heap.size w w2) := Lib.hid (HB1.out.trans (h2.mono HB1.out.size))
    have HX0 : Hid (∀ k, X0 k → w.heap.size ≤ k) := Lib.hid (fun k q => Nat.le_trans HB1.out.size (h3 k q))
    clear h1 h2 h3 HNW
    go_wp2_with fail
    go_loopw [8] (fun i wr => ∃ (p : Nat) (t : Bt) (X R : Nat → Prop), p ≤ ln ∧ i = .int .i64 (p : Int) ∧ Hid (BI X R wr b t) ∧ Hid (Below w.heap.size w wr) ∧ Hid (∀ k, X k → w.heap.size ≤ k) ∧ Hid (btl t ≤ ddls (l.take p) + 3 * p)) (fun i _ => ln - (intOf i).toNat)
    case atStart => exact ⟨0, bt0, X0, _, by omega, rfl, HBI0, HBW0, HX0, Lib.hid (by show btl bt0 ≤ _; exact Nat.zero_le _)⟩
    case round =>
      obtain ⟨p, t, X, R, hp, rfl, HBI, HBW, HX, HBT⟩ := hrel
      by_cases hlt : p < ln
      · skip
        obtain ⟨y, hy⟩ : ∃ y, l[p]? = some y := ⟨l[p]'(by rw [HLN.out]; exact hlt), List.getElem?_eq_getElem _⟩
        have hmem := List.mem_of_getElem? hy
        have HNX := Lib.hid (ddls_next hy)
        have hle := ddls_le hy
        have hst := btl_step t y
        have hbt := HBT.out
        obtain ⟨g, off, dv, rfl, -, hC, hD⟩ := (HV.out.keep (Kp.below HBW.out (fun k q => q))).at hy
        have hSX : ∀ k, (fun k => k < w.heap.size) k → k < wr.heap.size ∧ ¬ X k := fun k q => ⟨Nat.lt_of_lt_of_le q HBW.out.size, fun z => by have h1 := HX.out k z; simp only at q; omega⟩
        have HDN := Lib.hid (ldone_any (Aft BI X R (fun k => k < w.heap.size) wr b) (fun k => k < w.heap.size) b t dv y wr (fun k q => (hSX k q).1) hD (HSL.out y hmem) (I.told HBI.out (I.tb HTB.out HBW.out) hD hSX (by omega)))
        obtain ⟨dk, ⟨s1, s2, s3⟩, ⟨xk, xl, xn, ⟨t1, t2, t3⟩, ⟨k1, k2, k3⟩, ⟨r1, r2, r3⟩, xc, ⟨q1, q2, q3⟩, xb, xa⟩, dn, ⟨l1, l2, l3⟩, ⟨g1, g2, g3⟩⟩ := dv
        simp only [dcell, pv] at HDN
        have hlt' : (p : Int) < (ln : Int) := by omega
        have hp0 : (0 : Int) ≤ (p : Int) := by omega
        have c0 : wr.cell? ⟨g, off + p * 15, none⟩ = some (.int .i64 dk) := hC 0 _ rfl
        have c1 : wr.cell? ⟨g, off + p * 15 + 1, none⟩ = some (.slice s1 s2 s3) := hC 1 _ rfl
        have c2 : wr.cell? ⟨g, off + p * 15 + 2, none⟩ = some (.int .i64 xk) := hC 2 _ rfl
        have c3 : wr.cell? ⟨g, off + p * 15 + 3, none⟩ = some (.int .i64 xl) := hC 3 _ rfl
        have c4 : wr.cell? ⟨g, off + p * 15 + 4, none⟩ = some (.int .i64 xn) := hC 4 _ rfl
        have c5 : wr.cell? ⟨g, off + p * 15 + 5, none⟩ = some (.slice t1 t2 t3) := hC 5 _ rfl
        have c6 : wr.cell? ⟨g, off + p * 15 + 6, none⟩ = some (.slice k1 k2 k3) := hC 6 _ rfl
        have c7 : wr.cell? ⟨g, off + p * 15 + 7, none⟩ = some (.slice r1 r2 r3) := hC 7 _ rfl
        have c8 : wr.cell? ⟨g, off + p * 15 + 8, none⟩ = some (.string ⟨xc.toArray⟩) := hC 8 _ rfl
        have c9 : wr.cell? ⟨g, off + p * 15 + 9, none⟩ = some (.slice q1 q2 q3) := hC 9 _ rfl
        have c10 : wr.cell? ⟨g, off + p * 15 + 10, none⟩ = some (.bool xb) := hC 10 _ rfl
        have c11 : wr.cell? ⟨g, off + p * 15 + 11, none⟩ = some (.bool xa) := hC 11 _ rfl
        have c12 : wr.cell? ⟨g, off + p * 15 + 12, none⟩ = some (.int .i64 dn) := hC 12 _ rfl
        have c13 : wr.cell? ⟨g, off + p * 15 + 13, none⟩ = some (.slice l1 l2 l3) := hC 13 _ rfl
        have c14 : wr.cell? ⟨g, off + p * 15 + 14, none⟩ = some (.slice g1 g2 g3) := hC 14 _ rfl
        have HST : Hid (btl (bStep t y).1 ≤ ddls (l.take (p + 1)) + 3 * (p + 1)) := Lib.hid (by rw [HNX.out]; omega)
        clear hy hmem hC hD hSX hst hbt hle
        go_wp2_with fail
        refine HDN.out.mono ?_
        rintro e wq ⟨rfl, X', R', h1, h2, h3, h4⟩
        have HB' := Lib.hid h1
        have HW' : Hid (Below w.heap.size w wq) := Lib.hid (HBW.out.trans (h2.below HBW.out.size HX.out))
        have HX' : Hid (∀ k, X' k → w.heap.size ≤ k) := Lib.hid (fun k q => (h3 k q).elim (HX.out k) (fun z => Nat.le_trans HBW.out.size z))
        clear h1 h2 h3 h4 HDN c0 c1 c2 c3 c4 c5 c6 c7 c8 c9 c10 c11 c12 c13 c14
        go_wp2_with fail
        go_roundw
        case rel => exact ⟨p + 1, _, X', R', by omega, by go_num, HB', HW', HX', HST⟩
        case measure => (simp [intOf]; try omega)
      · have hlt' : ¬ (p : Int) < (ln : Int) := by omega
        have hbt := HBT.out
        have hdt := ddls_take l p
        have hB0 : btl t ≤ 1000 := by omega
        have HB0 := Lib.hid hB0
        clear hbt hdt hB0 HBT
        have HDP := Lib.hid (I.depth HBI.out (I.tb HTB.out HBW.out))
        obtain ⟨n, hn⟩ : ∃ n, t.opn.length = n := ⟨_, rfl⟩
        rw [hn] at HDP
        go_wp2_with fail
        refine HDP.out.mono ?_
        rintro e w3 ⟨rfl, b3⟩
        clear HDP
        have hBIn := I.keep HBI.out (Kp.below b3 (fun k q => I.lt HBI.out k (.inl q))) (Kp.below b3 (fun k q => I.lt HBI.out k (.inr q))) b3.size
        have hBWn := HBW.out.trans (b3.mono HBW.out.size)
        clear HBI HBW
        have HBI := Lib.hid hBIn
        have HBW := Lib.hid hBWn
        clear b3 hBIn hBWn
        have HIN := Lib.hid (I.inside kd HBI.out (I.tb HTB.out HBW.out) (by have := HB0.out; omega))
        obtain ⟨q, hq⟩ : ∃ q, bIn t kd = q := ⟨_, rfl⟩
        rw [hq] at HIN
        go_wp2_with fail
        refine HIN.out.mono ?_
        rintro e w4 ⟨rfl, b4⟩
        clear HIN
        have hBIn := I.keep HBI.out (Kp.below b4 (fun k q => I.lt HBI.out k (.inl q))) (Kp.below b4 (fun k q => I.lt HBI.out k (.inr q))) b4.size
        have hBWn := HBW.out.trans (b4.mono HBW.out.size)
        clear HBI HBW
        have HBI := Lib.hid hBIn
        have HBW := Lib.hid hBWn
        clear b4 hBIn hBWn
        have hcl := I.close kd HBI.out (I.tb HTB.out HBW.out) (by have := HB0.out; omega)
        rw [close_is, hq] at hcl
        have hless : q = true → (bClose t kd).1.opn.length < n := fun z => by rw [← hn]; exact close_less (hq.trans z)
        have hnone : q = false → (bClose t kd).1.opn.length = n := fun z => by rw [← hn]; exact close_none (hq.trans z)
        have hbc := btl_close t kd
        obtain ⟨t1, ht1⟩ : ∃ z, (bClose t kd).1 = z := ⟨_, rfl⟩
        rw [ht1] at hcl hless hnone hbc
        have HB1' : Hid (btl t1 ≤ 1003) := Lib.hid (by have := HB0.out; omega)
        have HCL := Lib.hid hcl
        have HLE := Lib.hid hless
        have HNO := Lib.hid hnone
        clear hcl hless hnone hbc ht1 hn hq HB0
        go_wp2_with fail
        refine HCL.out.mono ?_
        rintro e we ⟨rfl, X2, R2, g1, g2, g3, g4⟩
        have hBWn := g2.below HBW.out.size HX.out
        have hX2w : ∀ k, X2 k → w.heap.size ≤ k := fun k q => (g3 k q).elim (HX.out k) (fun z => Nat.le_trans HBW.out.size z)
        have hBW2 := HBW.out.trans hBWn
        clear HBI HBW HX
        have HBI := Lib.hid g1
        have HBW := Lib.hid hBW2
        have HX := Lib.hid hX2w
        clear g1 g2 g3 g4 hBWn hX2w hBW2 HCL
        have HDP := Lib.hid (I.depth HBI.out (I.tb HTB.out HBW.out))
        obtain ⟨m, hm⟩ : ∃ m, t1.opn.length = m := ⟨_, rfl⟩
        rw [hm] at HDP HLE HNO
        have HM := Lib.hid hm
        clear hm
        go_wp2_with fail
        refine HDP.out.mono ?_
        rintro e w6 ⟨rfl, b6⟩
        clear HDP
        have hBIn := I.keep HBI.out (Kp.below b6 (fun k q => I.lt HBI.out k (.inl q))) (Kp.below b6 (fun k q => I.lt HBI.out k (.inr q))) b6.size
        have hBWn := HBW.out.trans (b6.mono HBW.out.size)
        clear HBI HBW
        have HBI := Lib.hid hBIn
        have HBW := Lib.hid hBWn
        clear b6 hBIn hBWn
        cases q with
        | true =>
          have hmn : ¬ (m : Int) ≥ (n : Int) := by have := HLE.out rfl; omega
          clear HLE HNO
          obtain ⟨X7, hX7⟩ : ∃ Y, Y = w6.alloc (.cells #[.int .i64 kd] 3) := ⟨_, rfl⟩
          have b7 : Below w6.heap.size w6 X7 := by rw [hX7]; exact below_lit _ _
          have hz7 : X7.heap.size = w6.heap.size + 1 := by rw [hX7, World.size_alloc]
          have hI9 := int1 w6 kd
          rw [← hX7] at hI9
          have hlt7 : ∀ k, _ → k < w6.heap.size := fun k z => I.lt HBI.out k (.inl z)
          have hBIn := I.keep HBI.out (Kp.below b7 (fun k q => I.lt HBI.out k (.inl q))) (Kp.below b7 (fun k q => I.lt HBI.out k (.inr q))) b7.size
          have hBWn := HBW.out.trans (b7.mono HBW.out.size)
          clear HBI HBW
          have HBI := Lib.hid hBIn
          have HBW := Lib.hid hBWn
          clear hBIn hBWn
          have hsh := I.shut [kd] HBI.out (I.tb HTB.out HBW.out) hI9 (fun k z => ⟨by omega, fun z2 => by have := hlt7 k z2; omega⟩) (by simp) (by have := HB1'.out; omega)
          have hsl1 := shut_len t1 [kd]
          have hss := shut_shut t1 [kd]
          have hbs := btl_shut t1 [kd]
          rw [HM.out] at hsl1
          obtain ⟨t2, ht2⟩ : ∃ z, bShut t1 [kd] = z := ⟨_, rfl⟩
          rw [ht2] at hsl1 hss hsh hbs
          have HB2' : Hid (btl t2 ≤ 1006) := Lib.hid (by have := HB1'.out; omega)
          have HSS := Lib.hid hss
          have HSL2 := Lib.hid hsl1
          have HSH := Lib.hid hsh
          have HX7 := Lib.hid hX7
          clear hX7 b7 hz7 hI9 hlt7 hsh hss hsl1 hbs ht2 HM HB1'
          go_wp2_with fail
          rw [← HX7.out]
          clear HX7
          refine HSH.out.mono ?_
          rintro e we ⟨rfl, X2, R2, g1, g2, g3, g4⟩
          have hBWn := g2.below HBW.out.size HX.out
          have hX2w : ∀ k, X2 k → w.heap.size ≤ k := fun k q => (g3 k q).elim (HX.out k) (fun z => Nat.le_trans HBW.out.size z)
          have hBW2 := HBW.out.trans hBWn
          clear HBI HBW HX
          have HBI := Lib.hid g1
          have HBW := Lib.hid hBW2
          have HX := Lib.hid hX2w
          clear g1 g2 g3 g4 hBWn hX2w hBW2 HSH
          have HDP := Lib.hid (I.depth HBI.out (I.tb HTB.out HBW.out))
          obtain ⟨k0, hk0⟩ : ∃ m, t2.opn.length = m := ⟨_, rfl⟩
          rw [hk0] at HDP HSL2
          have HK0 := Lib.hid hk0
          clear hk0
          go_wp2_with fail
          refine HDP.out.mono ?_
          rintro e w7 ⟨rfl, b8⟩
          clear HDP
          have hBIn := I.keep HBI.out (Kp.below b8 (fun k q => I.lt HBI.out k (.inl q))) (Kp.below b8 (fun k q => I.lt HBI.out k (.inr q))) b8.size
          have hBWn := HBW.out.trans (b8.mono HBW.out.size)
          clear HBI HBW
          have HBI := Lib.hid hBIn
          have HBW := Lib.hid hBWn
          clear b8 hBIn hBWn
          obtain ⟨X7, hX7⟩ : ∃ Y, Y = w7.alloc (.cells #[.int .i64 kd] 3) := ⟨_, rfl⟩
          have b7 : Below w7.heap.size w7 X7 := by rw [hX7]; exact below_lit _ _
          have hz7 : X7.heap.size = w7.heap.size + 1 := by rw [hX7, World.size_alloc]
          have hI9 := int1 w7 kd
          rw [← hX7] at hI9
          have hlt7 : ∀ k, _ → k < w7.heap.size := fun k z => I.lt HBI.out k (.inl z)
          have hBIn := I.keep HBI.out (Kp.below b7 (fun k q => I.lt HBI.out k (.inl q))) (Kp.below b7 (fun k q => I.lt HBI.out k (.inr q))) b7.size
          have hBWn := HBW.out.trans (b7.mono HBW.out.size)
          clear HBI HBW
          have HBI := Lib.hid hBIn
          have HBW := Lib.hid hBWn
          clear hBIn hBWn
          have hsh := I.shut [kd] HBI.out (I.tb HTB.out HBW.out) hI9 (fun k z => ⟨by omega, fun z2 => by have := hlt7 k z2; omega⟩) (by simp) (by have := HB2'.out; omega)
          rw [HSS.out] at hsh
          have HSH := Lib.hid hsh
          have HX7 := Lib.hid hX7
          clear hX7 b7 hz7 hI9 hlt7 hsh HSS
          go_wp2_with fail
          rw [← HX7.out]
          clear HX7
          refine HSH.out.mono ?_
          rintro e we ⟨rfl, X2, R2, g1, g2, g3, g4⟩
          have hBWn := g2.below HBW.out.size HX.out
          have hX2w : ∀ k, X2 k → w.heap.size ≤ k := fun k q => (g3 k q).elim (HX.out k) (fun z => Nat.le_trans HBW.out.size z)
          have hBW2 := HBW.out.trans hBWn
          clear HBI HBW HX
          have HBI := Lib.hid g1
          have HBW := Lib.hid hBW2
          have HX := Lib.hid hX2w
          clear g1 g2 g3 g4 hBWn hX2w hBW2 HSH
          have htt := I.title nm [112] [100] [115] HBI.out (I.tb HTB.out HBW.out)
          obtain ⟨t4, ht4⟩ : ∃ z : Bt, { t2 with nm := ⟨nm, [112], [100], [115]⟩ } = z := ⟨_, rfl⟩
          rw [ht4] at htt
          have HN4 : Hid (t4.nm = ⟨nm, [112], [100], [115]⟩) := Lib.hid (by rw [← ht4])
          have HO4 : Hid (t4.opn.length = k0) := Lib.hid (by rw [← ht4]; exact HK0.out)
          have HB4 : Hid (btl t4 ≤ 1006) := Lib.hid (by rw [← ht4]; exact HB2'.out)
          have HTT := Lib.hid htt
          clear htt ht4 HK0 HB2'
          go_wp2_with fail
          refine HTT.out.mono ?_
          rintro e we ⟨rfl, X2, R2, g1, g2, g3, g4⟩
          have hBWn := g2.below HBW.out.size HX.out
          have hX2w : ∀ k, X2 k → w.heap.size ≤ k := fun k q => (g3 k q).elim (HX.out k) (fun z => Nat.le_trans HBW.out.size z)
          have hBW2 := HBW.out.trans hBWn
          clear HBI HBW HX
          have HBI := Lib.hid g1
          have HBW := Lib.hid hBW2
          have HX := Lib.hid hX2w
          clear g1 g2 g3 g4 hBWn hX2w hBW2 HTT
          have hdc := I.doc HBI.out (I.tb HTB.out HBW.out) (by have := HB4.out; omega)
          obtain ⟨A, hA⟩ : ∃ A, bDoc t4 = A := ⟨_, rfl⟩
          rw [HN4.out, hA] at hdc
          unfold docV docL at hdc
          have HDC := Lib.hid hdc
          have HCK : Hid (checkL A = 0) := Lib.hid (by rw [← hA]; exact check_tidy _)
          have HSZ : Hid (nlL A ≤ 90000) := Lib.hid (by
            have h1 := tidy_size (bAll (bEnd t4))
            have h2 := btl_all (bEnd t4)
            have h3 := btl_end t4
            have h4 := HB4.out
            have h5 : bDoc t4 = tidyL (bAll (bEnd t4)) := rfl
            rw [← h5, hA] at h1
            omega)
          clear hdc hA
          obtain ⟨wd0, hwd0⟩ : ∃ W : World, W = we := ⟨_, rfl⟩
          go_wp2_with fail
          refine HDC.out.mono ?_
          rintro e wd ⟨⟨s1, s2, s3⟩, rfl, hn1, hbd⟩
          simp only [pv] at hn1 ⊢
          clear HDC HN4
          obtain ⟨a1, ha1⟩ : ∃ q, we.heap.size = q := ⟨_, rfl⟩
          have hDN : NsS (fun k => a1 ≤ k ∧ k < wd.heap.size) wd (.slice s1 s2 s3) A := ha1 ▸ hn1
          clear hn1 hwd0
          have hBIn := I.keep HBI.out (Kp.below hbd (fun k q => I.lt HBI.out k (.inl q))) (Kp.below hbd (fun k q => I.lt HBI.out k (.inr q))) hbd.size
          have hBWn := HBW.out.trans (hbd.mono HBW.out.size)
          clear HBI HBW
          have HBI := Lib.hid hBIn
          have HBW := Lib.hid hBWn
          clear hbd hBIn hBWn
          obtain ⟨X5, hX5⟩ : ∃ Y, Y = wd.alloc (.cells #[.string ⟨nm.toArray⟩, .string ⟨#[112]⟩, .string ⟨#[100]⟩, .string ⟨#[115]⟩, .slice s1 s2 s3] 29) := ⟨_, rfl⟩
          have b5 : Below wd.heap.size wd X5 := by rw [hX5]; exact below_lit _ _
          obtain ⟨o1, ho1⟩ : ∃ q, wd.heap.size = q := ⟨_, rfl⟩
          have hKD : Blk X5 o1 29 [.string ⟨nm.toArray⟩, .string ⟨#[112]⟩, .string ⟨#[100]⟩, .string ⟨#[115]⟩, .slice s1 s2 s3] := by rw [← ho1, hX5]; exact heap_alloc_new wd _
          have hN5 : NsS (fun k => k < X5.heap.size) X5 (.slice s1 s2 s3) A := (hDN.keep (Kp.below b5 (fun k q => q.2))).mono (fun k q => Nat.lt_of_lt_of_le q.2 b5.size)
          have HO1 := Lib.hid ho1
          have HX5 := Lib.hid hX5
          have HKD := Lib.hid hKD
          have HN5 := Lib.hid hN5
          have hBIn := I.keep HBI.out (Kp.below b5 (fun k q => I.lt HBI.out k (.inl q))) (Kp.below b5 (fun k q => I.lt HBI.out k (.inr q))) b5.size
          have hBWn := HBW.out.trans (b5.mono HBW.out.size)
          clear HBI HBW
          have HBI := Lib.hid hBIn
          have HBW := Lib.hid hBWn
          clear b5 hBIn hBWn
          clear hKD hN5 hDN ha1 ho1 hX5
          have hd9 := I.depth HBI.out (I.tb HTB.out HBW.out)
          rw [HO4.out] at hd9
          have HDP := Lib.hid hd9
          clear hd9
          have EQ : ∀ W, (eqT (.string ⟨nm.toArray⟩) (.string ⟨nm.toArray⟩)).run Tryd.prog W = .ok (.bool true) W := fun W => by
            have h := eqT_run nm nm W
            rw [decide_eq_true rfl] at h
            exact h
          have EP : ∀ W, (eqT (.string ⟨#[112]⟩) (.string ⟨#[112]⟩)).run Tryd.prog W = .ok (.bool true) W := eqT_run [112] [112]
          have ED : ∀ W, (eqT (.string ⟨#[100]⟩) (.string ⟨#[100]⟩)).run Tryd.prog W = .ok (.bool true) W := eqT_run [100] [100]
          have ES : ∀ W, (eqT (.string ⟨#[115]⟩) (.string ⟨#[115]⟩)).run Tryd.prog W = .ok (.bool true) W := eqT_run [115] [115]
          have hkm : (k0 : Int) ≤ (m : Int) := by have := HSL2.out; omega
          clear HSL2 HO4
          go_upto_region 19 with fail
          rw [← HX5.out]
          try rw [HO1.out]
          clear HX5 HO1
          go_wp2_with fail
          refine HDP.out.mono ?_
          rintro e w9 ⟨rfl, b9⟩
          have hKD := HKD.out.below b9
          have c0 := hKD.cell 0
          have c1 := hKD.cell 1
          have c2 := hKD.cell 2
          have c3 := hKD.cell 3
          have c4 := hKD.cell 4
          have hck := hC (fun k => k < w9.heap.size) ⟨nm, [112], [100], [115]⟩ A (.slice s1 s2 s3) w9 HSZ.out ((HN5.out.keep (Kp.below b9 (fun k q => q))).mono (fun k q => Nat.lt_of_lt_of_le q b9.size)) (fun k q => q)
          rw [HCK.out] at hck
          unfold docV docL at hck
          have HCC := Lib.hid hck
          have hBW9 := HBW.out.trans (b9.mono HBW.out.size)
          clear HBI HBW HDP HKD HN5 HSZ HCK hck hKD b9
          have HBW := Lib.hid hBW9
          clear hBW9
          dsimp only [List.getElem_cons_zero, List.getElem_cons_succ, List.getElem?_cons_zero, List.getElem?_cons_succ] at c0 c1 c2 c3 c4
          go_wp2_with fail
          refine HCC.out.mono ?_
          rintro e wa ⟨rfl, ba⟩
          have hBW9 := HBW.out.trans (ba.mono HBW.out.size)
          clear HBW HCC ba c0 c1 c2 c3 c4
          have HBW := Lib.hid hBW9
          clear hBW9
          go_wp2_with fail
          refine (HK.out _ HBW.out).mono ?_
          rintro e wb ⟨rfl, bb⟩
          have HB9 := Lib.hid bb
          clear bb
          go_wp2_with fail
          go_ret
          exact ⟨rfl, HB9.out⟩
        | false =>
          obtain rfl : m = n := HNO.out rfl
          clear HLE HNO
          obtain ⟨X7, hX7⟩ : ∃ Y, Y = w6.alloc (.cells #[.int .i64 kd] 3) := ⟨_, rfl⟩
          have b7 : Below w6.heap.size w6 X7 := by rw [hX7]; exact below_lit _ _
          have hz7 : X7.heap.size = w6.heap.size + 1 := by rw [hX7, World.size_alloc]
          have hI9 := int1 w6 kd
          rw [← hX7] at hI9
          have hlt7 : ∀ k, _ → k < w6.heap.size := fun k z => I.lt HBI.out k (.inl z)
          have hBIn := I.keep HBI.out (Kp.below b7 (fun k q => I.lt HBI.out k (.inl q))) (Kp.below b7 (fun k q => I.lt HBI.out k (.inr q))) b7.size
          have hBWn := HBW.out.trans (b7.mono HBW.out.size)
          clear HBI HBW
          have HBI := Lib.hid hBIn
          have HBW := Lib.hid hBWn
          clear hBIn hBWn
          have hsh := I.shut [kd] HBI.out (I.tb HTB.out HBW.out) hI9 (fun k z => ⟨by omega, fun z2 => by have := hlt7 k z2; omega⟩) (by simp) (by have := HB1'.out; omega)
          have hsl1 := shut_len t1 [kd]
          have hss := shut_shut t1 [kd]
          have hbs := btl_shut t1 [kd]
          rw [HM.out] at hsl1
          obtain ⟨t2, ht2⟩ : ∃ z, bShut t1 [kd] = z := ⟨_, rfl⟩
          rw [ht2] at hsl1 hss hsh hbs
          have HB2' : Hid (btl t2 ≤ 1006) := Lib.hid (by have := HB1'.out; omega)
          have HSS := Lib.hid hss
          have HSL2 := Lib.hid hsl1
          have HSH := Lib.hid hsh
          have HX7 := Lib.hid hX7
          clear hX7 b7 hz7 hI9 hlt7 hsh hss hsl1 hbs ht2 HM HB1'
          go_wp2_with fail
          rw [← HX7.out]
          clear HX7
          refine HSH.out.mono ?_
          rintro e we ⟨rfl, X2, R2, g1, g2, g3, g4⟩
          have hBWn := g2.below HBW.out.size HX.out
          have hX2w : ∀ k, X2 k → w.heap.size ≤ k := fun k q => (g3 k q).elim (HX.out k) (fun z => Nat.le_trans HBW.out.size z)
          have hBW2 := HBW.out.trans hBWn
          clear HBI HBW HX
          have HBI := Lib.hid g1
          have HBW := Lib.hid hBW2
          have HX := Lib.hid hX2w
          clear g1 g2 g3 g4 hBWn hX2w hBW2 HSH
          have HDP := Lib.hid (I.depth HBI.out (I.tb HTB.out HBW.out))
          obtain ⟨k0, hk0⟩ : ∃ m, t2.opn.length = m := ⟨_, rfl⟩
          rw [hk0] at HDP HSL2
          have HK0 := Lib.hid hk0
          clear hk0
          go_wp2_with fail
          refine HDP.out.mono ?_
          rintro e w7 ⟨rfl, b8⟩
          clear HDP
          have hBIn := I.keep HBI.out (Kp.below b8 (fun k q => I.lt HBI.out k (.inl q))) (Kp.below b8 (fun k q => I.lt HBI.out k (.inr q))) b8.size
          have hBWn := HBW.out.trans (b8.mono HBW.out.size)
          clear HBI HBW
          have HBI := Lib.hid hBIn
          have HBW := Lib.hid hBWn
          clear b8 hBIn hBWn
          obtain ⟨X7, hX7⟩ : ∃ Y, Y = w7.alloc (.cells #[.int .i64 kd] 3) := ⟨_, rfl⟩
          have b7 : Below w7.heap.size w7 X7 := by rw [hX7]; exact below_lit _ _
          have hz7 : X7.heap.size = w7.heap.size + 1 := by rw [hX7, World.size_alloc]
          have hI9 := int1 w7 kd
          rw [← hX7] at hI9
          have hlt7 : ∀ k, _ → k < w7.heap.size := fun k z => I.lt HBI.out k (.inl z)
          have hBIn := I.keep HBI.out (Kp.below b7 (fun k q => I.lt HBI.out k (.inl q))) (Kp.below b7 (fun k q => I.lt HBI.out k (.inr q))) b7.size
          have hBWn := HBW.out.trans (b7.mono HBW.out.size)
          clear HBI HBW
          have HBI := Lib.hid hBIn
          have HBW := Lib.hid hBWn
          clear hBIn hBWn
          have hsh := I.shut [kd] HBI.out (I.tb HTB.out HBW.out) hI9 (fun k z => ⟨by omega, fun z2 => by have := hlt7 k z2; omega⟩) (by simp) (by have := HB2'.out; omega)
          rw [HSS.out] at hsh
          have HSH := Lib.hid hsh
          have HX7 := Lib.hid hX7
          clear hX7 b7 hz7 hI9 hlt7 hsh HSS
          go_wp2_with fail
          rw [← HX7.out]
          clear HX7
          refine HSH.out.mono ?_
          rintro e we ⟨rfl, X2, R2, g1, g2, g3, g4⟩
          have hBWn := g2.below HBW.out.size HX.out
          have hX2w : ∀ k, X2 k → w.heap.size ≤ k := fun k q => (g3 k q).elim (HX.out k) (fun z => Nat.le_trans HBW.out.size z)
          have hBW2 := HBW.out.trans hBWn
          clear HBI HBW HX
          have HBI := Lib.hid g1
          have HBW := Lib.hid hBW2
          have HX := Lib.hid hX2w
          clear g1 g2 g3 g4 hBWn hX2w hBW2 HSH
          have htt := I.title nm [112] [100] [115] HBI.out (I.tb HTB.out HBW.out)
          obtain ⟨t4, ht4⟩ : ∃ z : Bt, { t2 with nm := ⟨nm, [112], [100], [115]⟩ } = z := ⟨_, rfl⟩
          rw [ht4] at htt
          have HN4 : Hid (t4.nm = ⟨nm, [112], [100], [115]⟩) := Lib.hid (by rw [← ht4])
          have HO4 : Hid (t4.opn.length = k0) := Lib.hid (by rw [← ht4]; exact HK0.out)
          have HB4 : Hid (btl t4 ≤ 1006) := Lib.hid (by rw [← ht4]; exact HB2'.out)
          have HTT := Lib.hid htt
          clear htt ht4 HK0 HB2'
          go_wp2_with fail
          refine HTT.out.mono ?_
          rintro e we ⟨rfl, X2, R2, g1, g2, g3, g4⟩
          have hBWn := g2.below HBW.out.size HX.out
          have hX2w : ∀ k, X2 k → w.heap.size ≤ k := fun k q => (g3 k q).elim (HX.out k) (fun z => Nat.le_trans HBW.out.size z)
          have hBW2 := HBW.out.trans hBWn
          clear HBI HBW HX
          have HBI := Lib.hid g1
          have HBW := Lib.hid hBW2
          have HX := Lib.hid hX2w
          clear g1 g2 g3 g4 hBWn hX2w hBW2 HTT
          have hdc := I.doc HBI.out (I.tb HTB.out HBW.out) (by have := HB4.out; omega)
          obtain ⟨A, hA⟩ : ∃ A, bDoc t4 = A := ⟨_, rfl⟩
          rw [HN4.out, hA] at hdc
          unfold docV docL at hdc
          have HDC := Lib.hid hdc
          have HCK : Hid (checkL A = 0) := Lib.hid (by rw [← hA]; exact check_tidy _)
          have HSZ : Hid (nlL A ≤ 90000) := Lib.hid (by
            have h1 := tidy_size (bAll (bEnd t4))
            have h2 := btl_all (bEnd t4)
            have h3 := btl_end t4
            have h4 := HB4.out
            have h5 : bDoc t4 = tidyL (bAll (bEnd t4)) := rfl
            rw [← h5, hA] at h1
            omega)
          clear hdc hA
          obtain ⟨wd0, hwd0⟩ : ∃ W : World, W = we := ⟨_, rfl⟩
          go_wp2_with fail
          refine HDC.out.mono ?_
          rintro e wd ⟨⟨s1, s2, s3⟩, rfl, hn1, hbd⟩
          simp only [pv] at hn1 ⊢
          clear HDC HN4
          obtain ⟨a1, ha1⟩ : ∃ q, we.heap.size = q := ⟨_, rfl⟩
          have hDN : NsS (fun k => a1 ≤ k ∧ k < wd.heap.size) wd (.slice s1 s2 s3) A := ha1 ▸ hn1
          clear hn1 hwd0
          have hBIn := I.keep HBI.out (Kp.below hbd (fun k q => I.lt HBI.out k (.inl q))) (Kp.below hbd (fun k q => I.lt HBI.out k (.inr q))) hbd.size
          have hBWn := HBW.out.trans (hbd.mono HBW.out.size)
          clear HBI HBW
          have HBI := Lib.hid hBIn
          have HBW := Lib.hid hBWn
          clear hbd hBIn hBWn
          obtain ⟨X5, hX5⟩ : ∃ Y, Y = wd.alloc (.cells #[.string ⟨nm.toArray⟩, .string ⟨#[112]⟩, .string ⟨#[100]⟩, .string ⟨#[115]⟩, .slice s1 s2 s3] 29) := ⟨_, rfl⟩
          have b5 : Below wd.heap.size wd X5 := by rw [hX5]; exact below_lit _ _
          obtain ⟨o1, ho1⟩ : ∃ q, wd.heap.size = q := ⟨_, rfl⟩
          have hKD : Blk X5 o1 29 [.string ⟨nm.toArray⟩, .string ⟨#[112]⟩, .string ⟨#[100]⟩, .string ⟨#[115]⟩, .slice s1 s2 s3] := by rw [← ho1, hX5]; exact heap_alloc_new wd _
          have hN5 : NsS (fun k => k < X5.heap.size) X5 (.slice s1 s2 s3) A := (hDN.keep (Kp.below b5 (fun k q => q.2))).mono (fun k q => Nat.lt_of_lt_of_le q.2 b5.size)
          have HO1 := Lib.hid ho1
          have HX5 := Lib.hid hX5
          have HKD := Lib.hid hKD
          have HN5 := Lib.hid hN5
          have hBIn := I.keep HBI.out (Kp.below b5 (fun k q => I.lt HBI.out k (.inl q))) (Kp.below b5 (fun k q => I.lt HBI.out k (.inr q))) b5.size
          have hBWn := HBW.out.trans (b5.mono HBW.out.size)
          clear HBI HBW
          have HBI := Lib.hid hBIn
          have HBW := Lib.hid hBWn
          clear b5 hBIn hBWn
          clear hKD hN5 hDN ha1 ho1 hX5
          have hd9 := I.depth HBI.out (I.tb HTB.out HBW.out)
          rw [HO4.out] at hd9
          have HDP := Lib.hid hd9
          clear hd9
          have EQ : ∀ W, (eqT (.string ⟨nm.toArray⟩) (.string ⟨nm.toArray⟩)).run Tryd.prog W = .ok (.bool true) W := fun W => by
            have h := eqT_run nm nm W
            rw [decide_eq_true rfl] at h
            exact h
          have EP : ∀ W, (eqT (.string ⟨#[112]⟩) (.string ⟨#[112]⟩)).run Tryd.prog W = .ok (.bool true) W := eqT_run [112] [112]
          have ED : ∀ W, (eqT (.string ⟨#[100]⟩) (.string ⟨#[100]⟩)).run Tryd.prog W = .ok (.bool true) W := eqT_run [100] [100]
          have ES : ∀ W, (eqT (.string ⟨#[115]⟩) (.string ⟨#[115]⟩)).run Tryd.prog W = .ok (.bool true) W := eqT_run [115] [115]
          have hkm : (k0 : Int) ≤ (m : Int) := by have := HSL2.out; omega
          clear HSL2 HO4
          go_upto_region 19 with fail
          rw [← HX5.out]
          try rw [HO1.out]
          clear HX5 HO1
          go_wp2_with fail
          refine HDP.out.mono ?_
          rintro e w9 ⟨rfl, b9⟩
          have hKD := HKD.out.below b9
          have c0 := hKD.cell 0
          have c1 := hKD.cell 1
          have c2 := hKD.cell 2
          have c3 := hKD.cell 3
          have c4 := hKD.cell 4
          have hck := hC (fun k => k < w9.heap.size) ⟨nm, [112], [100], [115]⟩ A (.slice s1 s2 s3) w9 HSZ.out ((HN5.out.keep (Kp.below b9 (fun k q => q))).mono (fun k q => Nat.lt_of_lt_of_le q b9.size)) (fun k q => q)
          rw [HCK.out] at hck
          unfold docV docL at hck
          have HCC := Lib.hid hck
          have hBW9 := HBW.out.trans (b9.mono HBW.out.size)
          clear HBI HBW HDP HKD HN5 HSZ HCK hck hKD b9
          have HBW := Lib.hid hBW9
          clear hBW9
          dsimp only [List.getElem_cons_zero, List.getElem_cons_succ, List.getElem?_cons_zero, List.getElem?_cons_succ] at c0 c1 c2 c3 c4
          go_wp2_with fail
          refine HCC.out.mono ?_
          rintro e wa ⟨rfl, ba⟩
          have hBW9 := HBW.out.trans (ba.mono HBW.out.size)
          clear HBW HCC ba c0 c1 c2 c3 c4
          have HBW := Lib.hid hBW9
          clear hBW9
          go_wp2_with fail
          refine (HK.out _ HBW.out).mono ?_
          rintro e wb ⟨rfl, bb⟩
          have HB9 := Lib.hid bb
          clear bb
          go_wp2_with fail
          go_ret
          exact ⟨rfl, HB9.out⟩
end Go.Proofs.YtpccjgoeoeehoaaDoor
