/- The laws' known, over whatever a builder keeps. The walk of BuildSteps, over whatever a builder keeps. -/
import Derived.Test.YtpccjgoeoeehoaaDoorBq
import Derived.Test.YtpccjgoeoeehoaaDoorBs
import Derived.Deep.RegionHeld3
import Derived.Deep.DeepCutAuto
set_option linter.unusedVariables false
set_option linter.unusedSimpArgs false
namespace Go.Proofs.YtpccjgoeoeehoaaDoor
open Go.RowKit
theorem ns_lit8 {S : Nat → Prop} (w : World) (L : List NV) (l : List Nd) (hl : L.length = l.length) (hS : ∀ b, S b → b < w.heap.size) (hh : ∀ (i : Nat) x y, L[i]? = some x → l[i]? = some y → HdIs S w x y.hd ∧ NsS S w (pv x.kids) y.kids) :
    NsS (fun b => S b ∨ b = w.heap.size) (w.alloc (.cells (flatV ncell L).toArray 40)) (.slice (some ⟨w.heap.size, 0, none⟩) L.length L.length) l := by
  have hk : Kp S w (w.alloc (.cells (flatV ncell L).toArray 40)) := Kp.below (below_lit w _) hS
  refine .mk _ _ L hl ⟨fs_lit ncell_len w _ L, fun a k c e _ => ?_⟩ (fun i x y a b => ((hh i x y a b).1.keep hk).mono (fun b q => .inl q)) (fun i x y a b => ((hh i x y a b).2.keep hk).mono (fun b q => .inl q))
  injection e with e1
  injection e1 with e1
  subst e1
  exact ⟨.inr rfl, fun _ i _ => by
    have h := heap_alloc_new w (.cells (flatV ncell L).toArray 40)
    simp only [World.frozen?, h]
    simp⟩
theorem one_at8 {α β : Type} {x x' : α} {y y' : β} {i : Nat} (h : [x][i]? = some x') (k : [y][i]? = some y') : x = x' ∧ y = y' := by
  match i with
  | 0 => simp at h k; exact ⟨h, k⟩
  | i + 1 => simp at h
def gl8 (r : Int) : List Gly := [(r, 0)]
theorem gly8 (W : World) (r : Int) : FsS (fun k => k = W.heap.size) 2 gcell (W.alloc (.cells #[.int .i32 r, .int .u8 0] 56)) (.slice (some ⟨W.heap.size, 0, none⟩) 1 1) (gl8 r) := by
  refine ⟨fs_lit gcell_len W 56 (gl8 r), fun a k c e _ => ?_⟩
  injection e with e1
  injection e1 with e1
  subst e1
  exact ⟨rfl, fun _ i _ => by
    have h := heap_alloc_new W (.cells #[.int .i32 r, .int .u8 0] 56)
    simp only [World.frozen?, h]
    simp⟩
def ab8 : List Gly := [(97, 0), (32, 0), (98, 0)]
theorem glys8 (W : World) : FsS (fun k => k = W.heap.size) 2 gcell (W.alloc (.cells #[.int .i32 97, .int .u8 0, .int .i32 32, .int .u8 0, .int .i32 98, .int .u8 0] 56)) (.slice (some ⟨W.heap.size, 0, none⟩) 3 3) ab8 := by
  refine ⟨fs_lit gcell_len W 56 ab8, fun a k c e _ => ?_⟩
  injection e with e1
  injection e1 with e1
  subst e1
  exact ⟨rfl, fun _ i _ => by
    have h := heap_alloc_new W (.cells #[.int .i32 97, .int .u8 0, .int .i32 32, .int .u8 0, .int .i32 98, .int .u8 0] 56)
    simp only [World.frozen?, h]
    simp⟩
def hd8 (k ln : Int) (t : List Gly) : Hd := ⟨k, ln, 0, t, [], noGrid⟩
def y8 : Nd := .mk (hd8 1 0 (gl8 120)) []
def t8 : Bt := bText (bText (bOpen bt0 y8) (gl8 97) 4) (gl8 98) 5
def want8 : List Nd := [.mk (hd8 1 0 (gl8 120)) [.mk (hd8 3 4 ab8) []]]
theorem all8 : bAll (bEnd t8) = want8 := by rfl
theorem doc8 : bDoc t8 = want8 := by
  unfold bDoc
  rw [all8]
  unfold tidyL want8
  simp only [tdL_cons, tdL_nil, tdN_mk]
  rfl
theorem nm8 : t8.nm = ⟨[], [], [], []⟩ := rfl
theorem opn8 : t8.opn.length = 1 := rfl
def nv8 (k ln : Int) (t s : PV) : NV := ⟨k, ln, 0, t, s, (none, 0, 0), [], (none, 0, 0), false, false⟩
theorem hdis8 {S : Nat → Prop} {w : World} (k ln : Int) {t s : PV} {g : List Gly} (h : FsS S 2 gcell w (pv t) g) : HdIs S w (nv8 k ln t s) (hd8 k ln g) := ⟨rfl, rfl, rfl, h, GrS.nil _ _, rfl, TrS.nil _ _, rfl, rfl⟩
/-- What is wanted, as the law builds it. -/
theorem want_is (W0 W4 : World) (h : W4 = (((W0.alloc (.cells #[.int .i32 120, .int .u8 0] 56)).alloc (.cells #[.int .i32 97, .int .u8 0, .int .i32 32, .int .u8 0, .int .i32 98, .int .u8 0] 56)).alloc (.cells #[.int .i64 3, .int .i64 4, .int .i64 0, .slice (some ⟨W0.heap.size + 1, 0, none⟩) 3 3, .slice none 0 0, .slice none 0 0, .string ⟨#[]⟩, .slice none 0 0, .bool false, .bool false] 40)).alloc (.cells #[.int .i64 1, .int .i64 0, .int .i64 0, .slice (some ⟨W0.heap.size, 0, none⟩) 1 1, .slice (some ⟨W0.heap.size + 1 + 1, 0, none⟩) 1 1, .slice none 0 0, .string ⟨#[]⟩, .slice none 0 0, .bool false, .bool false] 40)) :
    NsS (fun b => b < W4.heap.size) W4 (.slice (some ⟨W0.heap.size + 1 + 1 + 1, 0, none⟩) 1 1) want8 ∧ Below W0.heap.size W0 W4 := by
  obtain ⟨W1, hW1⟩ : ∃ W, W = W0.alloc (.cells #[.int .i32 120, .int .u8 0] 56) := ⟨_, rfl⟩
  have z1 : W1.heap.size = W0.heap.size + 1 := by rw [hW1, World.size_alloc]
  have b1 : Below W0.heap.size W0 W1 := by rw [hW1]; exact below_lit _ _
  have g1 := gly8 W0 120
  rw [← hW1] at g1 h
  obtain ⟨W2, hW2⟩ : ∃ W, W = W1.alloc (.cells #[.int .i32 97, .int .u8 0, .int .i32 32, .int .u8 0, .int .i32 98, .int .u8 0] 56) := ⟨_, rfl⟩
  have z2 : W2.heap.size = W1.heap.size + 1 := by rw [hW2, World.size_alloc]
  have b2 : Below W1.heap.size W1 W2 := by rw [hW2]; exact below_lit _ _
  have g2 := glys8 W1
  rw [← hW2] at g2 h
  have g1' : FsS (fun b => b < W2.heap.size) 2 gcell W2 (.slice (some ⟨W0.heap.size, 0, none⟩) 1 1) (gl8 120) := (g1.keep (Kp.below b2 (fun b q => by omega))).mono (fun b q => by omega)
  have g2' : FsS (fun b => b < W2.heap.size) 2 gcell W2 (.slice (some ⟨W1.heap.size, 0, none⟩) 3 3) ab8 := g2.mono (fun b q => by omega)
  obtain ⟨W3, hW3⟩ : ∃ W, W = W2.alloc (.cells (flatV ncell [nv8 3 4 (some ⟨W1.heap.size, 0, none⟩, 3, 3) (none, 0, 0)]).toArray 40) := ⟨_, rfl⟩
  have z3 : W3.heap.size = W2.heap.size + 1 := by rw [hW3, World.size_alloc]
  have b3 : Below W2.heap.size W2 W3 := by rw [hW3]; exact below_lit _ _
  have hN3 : NsS (fun b => b < W3.heap.size) W3 (.slice (some ⟨W2.heap.size, 0, none⟩) 1 1) [.mk (hd8 3 4 ab8) []] := by
    have := ns_lit8 W2 [nv8 3 4 (some ⟨W1.heap.size, 0, none⟩, 3, 3) (none, 0, 0)] [.mk (hd8 3 4 ab8) []] rfl (fun b q => q) (fun i x y a b => by
      obtain ⟨rfl, rfl⟩ := one_at8 a b
      exact ⟨hdis8 3 4 g2', NsS.nil _ _⟩)
    rw [← hW3] at this
    exact this.mono (fun b q => by rcases q with q | q <;> omega)
  have g3 : FsS (fun b => b < W3.heap.size) 2 gcell W3 (.slice (some ⟨W0.heap.size, 0, none⟩) 1 1) (gl8 120) := (g1'.keep (Kp.below b3 (fun b q => q))).mono (fun b q => by omega)
  have h4 : W4 = W3.alloc (.cells (flatV ncell [nv8 1 0 (some ⟨W0.heap.size, 0, none⟩, 1, 1) (some ⟨W2.heap.size, 0, none⟩, 1, 1)]).toArray 40) := by
    rw [h, hW3, z2, z1]
    rfl
  have z4 : W4.heap.size = W3.heap.size + 1 := by rw [h4, World.size_alloc]
  have b4 : Below W3.heap.size W3 W4 := by rw [h4]; exact below_lit _ _
  have hN4 : NsS (fun b => b < W4.heap.size) W4 (.slice (some ⟨W3.heap.size, 0, none⟩) 1 1) want8 := by
    have := ns_lit8 W3 [nv8 1 0 (some ⟨W0.heap.size, 0, none⟩, 1, 1) (some ⟨W2.heap.size, 0, none⟩, 1, 1)] want8 rfl (fun b q => q) (fun i x y a b => by
      obtain ⟨rfl, rfl⟩ := one_at8 a b
      exact ⟨hdis8 1 0 g3, hN3⟩)
    rw [← h4] at this
    exact this.mono (fun b q => by rcases q with q | q <;> omega)
  rw [show W3.heap.size = W0.heap.size + 1 + 1 + 1 by omega] at hN4
  exact ⟨hN4, b1.trans ((b2.trans ((b3.trans (b4.mono (by omega))).mono (by omega))).mono (by omega))⟩
set_option maxRecDepth 100000 in
set_option maxHeartbeats 8000000 in
theorem bknown_any (BI : BIT) (TB : World → Prop) (I : Impl BI TB) (hNil : ∀ W, TB W → Calls Tryd.prog 13 #[.pointer none] W fun e w' => e = .returned (.int .i64 0) ∧ Below W.heap.size W w') (w : World) (hTB : TB w) :
    Calls Tryd.prog 9 #[] w fun e w' => e = .returned (.bool true) ∧ Below w.heap.size w w' := by
  have HTB := Lib.hid hTB
  have HNI := Lib.hid hNil
  clear hTB hNil
  have HNW := Lib.hid (I.new w)
  go_enter Tryd.func9, Tryd.ntmps9
  go_wp2_with fail
  refine HNW.out.mono ?_
  rintro e w2 ⟨b, X, rfl, h1, h2, h3⟩
  have HBI := Lib.hid h1
  have HBW := Lib.hid h2
  have HX := Lib.hid h3
  clear h1 h2 h3 HNW
  obtain ⟨we, hwe⟩ : ∃ W : World, W = w2 := ⟨_, rfl⟩
  rw [← hwe] at HBI HBW ⊢
  clear hwe
  obtain ⟨X7, hX7⟩ : ∃ Y, Y = we.alloc (.cells #[.int .i32 120, .int .u8 0] 56) := ⟨_, rfl⟩
  have b7 : Below we.heap.size we X7 := by rw [hX7]; exact below_lit _ _
  have hz7 : X7.heap.size = we.heap.size + 1 := by rw [hX7, World.size_alloc]
  have hI9 := gly8 we 120
  rw [← hX7] at hI9
  have hlt7 : ∀ k, _ → k < we.heap.size := fun k z => I.lt HBI.out k (.inl z)
  have hBIn := I.keep HBI.out (Kp.below b7 (fun k q => I.lt HBI.out k (.inl q))) (Kp.below b7 (fun k q => I.lt HBI.out k (.inr q))) b7.size
  have hBWn := HBW.out.trans (b7.mono HBW.out.size)
  clear HBI HBW
  have HBI := Lib.hid hBIn
  have HBW := Lib.hid hBWn
  clear hBIn hBWn
  have hcl := I.opn (nv := nv8 1 0 (some ⟨we.heap.size, 0, none⟩, 1, 1) (none, 0, 0)) (y := y8) HBI.out (I.tb HTB.out HBW.out) ⟨hdis8 1 0 hI9, NsS.nil _ _⟩ (fun k z => ⟨by omega, fun z2 => by have := hlt7 k z2; omega⟩) (by decide)
  have HCL := Lib.hid hcl
  have HX7 := Lib.hid hX7
  clear hX7 b7 hz7 hI9 hlt7 hcl
  go_wp2_with fail
  rw [← HX7.out]
  clear HX7
  refine HCL.out.mono ?_
  rintro e we ⟨rfl, X2, R2, g1, g2, g3, g4⟩
  have hBWn := g2.below HBW.out.size HX.out
  have hX2w : ∀ k, X2 k → w.heap.size ≤ k := fun k q => (g3 k q).elim (HX.out k) (fun z => Nat.le_trans HBW.out.size z)
  have hBW2 := HBW.out.trans hBWn
  clear HBI HBW HX
  have HBI := Lib.hid g1
  have HBW := Lib.hid hBW2
  have HX := Lib.hid hX2w
  clear g1 g2 g3 g4 hBWn hX2w hBW2 HCL
  obtain ⟨X7, hX7⟩ : ∃ Y, Y = we.alloc (.cells #[.int .i32 97, .int .u8 0] 56) := ⟨_, rfl⟩
  have b7 : Below we.heap.size we X7 := by rw [hX7]; exact below_lit _ _
  have hz7 : X7.heap.size = we.heap.size + 1 := by rw [hX7, World.size_alloc]
  have hI9 := gly8 we 97
  rw [← hX7] at hI9
  have hlt7 : ∀ k, _ → k < we.heap.size := fun k z => I.lt HBI.out k (.inl z)
  have hBIn := I.keep HBI.out (Kp.below b7 (fun k q => I.lt HBI.out k (.inl q))) (Kp.below b7 (fun k q => I.lt HBI.out k (.inr q))) b7.size
  have hBWn := HBW.out.trans (b7.mono HBW.out.size)
  clear HBI HBW
  have HBI := Lib.hid hBIn
  have HBW := Lib.hid hBWn
  clear hBIn hBWn
  have hcl := I.text (gl8 97) 4 HBI.out (I.tb HTB.out HBW.out) hI9 (fun k z => ⟨by omega, fun z2 => by have := hlt7 k z2; omega⟩) (by decide)
  have HCL := Lib.hid hcl
  have HX7 := Lib.hid hX7
  clear hX7 b7 hz7 hI9 hlt7 hcl
  go_wp2_with fail
  rw [← HX7.out]
  clear HX7
  refine HCL.out.mono ?_
  rintro e we ⟨rfl, X2, R2, g1, g2, g3, g4⟩
  have hBWn := g2.below HBW.out.size HX.out
  have hX2w : ∀ k, X2 k → w.heap.size ≤ k := fun k q => (g3 k q).elim (HX.out k) (fun z => Nat.le_trans HBW.out.size z)
  have hBW2 := HBW.out.trans hBWn
  clear HBI HBW HX
  have HBI := Lib.hid g1
  have HBW := Lib.hid hBW2
  have HX := Lib.hid hX2w
  clear g1 g2 g3 g4 hBWn hX2w hBW2 HCL
  obtain ⟨X7, hX7⟩ : ∃ Y, Y = we.alloc (.cells #[.int .i32 98, .int .u8 0] 56) := ⟨_, rfl⟩
  have b7 : Below we.heap.size we X7 := by rw [hX7]; exact below_lit _ _
  have hz7 : X7.heap.size = we.heap.size + 1 := by rw [hX7, World.size_alloc]
  have hI9 := gly8 we 98
  rw [← hX7] at hI9
  have hlt7 : ∀ k, _ → k < we.heap.size := fun k z => I.lt HBI.out k (.inl z)
  have hBIn := I.keep HBI.out (Kp.below b7 (fun k q => I.lt HBI.out k (.inl q))) (Kp.below b7 (fun k q => I.lt HBI.out k (.inr q))) b7.size
  have hBWn := HBW.out.trans (b7.mono HBW.out.size)
  clear HBI HBW
  have HBI := Lib.hid hBIn
  have HBW := Lib.hid hBWn
  clear hBIn hBWn
  have hcl := I.text (gl8 98) 5 HBI.out (I.tb HTB.out HBW.out) hI9 (fun k z => ⟨by omega, fun z2 => by have := hlt7 k z2; omega⟩) (by decide)
  have HCL := Lib.hid hcl
  have HX7 := Lib.hid hX7
  clear hX7 b7 hz7 hI9 hlt7 hcl
  go_wp2_with fail
  rw [← HX7.out]
  clear HX7
  refine HCL.out.mono ?_
  rintro e we ⟨rfl, X2, R2, g1, g2, g3, g4⟩
  have hBWn := g2.below HBW.out.size HX.out
  have hX2w : ∀ k, X2 k → w.heap.size ≤ k := fun k q => (g3 k q).elim (HX.out k) (fun z => Nat.le_trans HBW.out.size z)
  have hBW2 := HBW.out.trans hBWn
  clear HBI HBW HX
  have HBI := Lib.hid g1
  have HBW := Lib.hid hBW2
  have HX := Lib.hid hX2w
  clear g1 g2 g3 g4 hBWn hX2w hBW2 HCL
  have HBI8 : Hid (BI X2 R2 we b t8) := HBI
  clear HBI
  have HBI := HBI8
  clear HBI8
  have hdc := I.doc HBI.out (I.tb HTB.out HBW.out) (by decide)
  rw [nm8, doc8] at hdc
  unfold docV docL at hdc
  have HDC := Lib.hid hdc
  clear hdc
  go_wp2_with fail
  refine HDC.out.mono ?_
  rintro e wd ⟨⟨s1, s2, s3⟩, rfl, hn1, hbd⟩
  simp only [pv] at hn1 ⊢
  clear HDC
  have hBIn := I.keep HBI.out (Kp.below hbd (fun k q => I.lt HBI.out k (.inl q))) (Kp.below hbd (fun k q => I.lt HBI.out k (.inr q))) hbd.size
  have hBWn := HBW.out.trans (hbd.mono HBW.out.size)
  clear HBI HBW
  have HBI := Lib.hid hBIn
  have HBW := Lib.hid hBWn
  clear hBIn hBWn
  obtain ⟨X5, hX5⟩ : ∃ Y, Y = wd.alloc (.cells #[.string ⟨#[]⟩, .string ⟨#[]⟩, .string ⟨#[]⟩, .string ⟨#[]⟩, .slice s1 s2 s3] 29) := ⟨_, rfl⟩
  have b5 : Below wd.heap.size wd X5 := by rw [hX5]; exact below_lit _ _
  obtain ⟨o1, ho1⟩ : ∃ q, wd.heap.size = q := ⟨_, rfl⟩
  have hKD : Blk X5 o1 29 [.string ⟨#[]⟩, .string ⟨#[]⟩, .string ⟨#[]⟩, .string ⟨#[]⟩, .slice s1 s2 s3] := by rw [← ho1, hX5]; exact heap_alloc_new wd _
  have hN5 : NsS (fun k => k < X5.heap.size) X5 (.slice s1 s2 s3) want8 := (hn1.keep (Kp.below b5 (fun k q => q.2))).mono (fun k q => Nat.lt_of_lt_of_le q.2 b5.size)
  have hBIn := I.keep HBI.out (Kp.below b5 (fun k q => I.lt HBI.out k (.inl q))) (Kp.below b5 (fun k q => I.lt HBI.out k (.inr q))) b5.size
  have hBWn := HBW.out.trans (b5.mono HBW.out.size)
  clear HBI HBW
  have HBI := Lib.hid hBIn
  have HBW := Lib.hid hBWn
  clear hBIn hBWn
  obtain ⟨X6, hX6⟩ : ∃ W4, W4 = (((X5.alloc (.cells #[.int .i32 120, .int .u8 0] 56)).alloc (.cells #[.int .i32 97, .int .u8 0, .int .i32 32, .int .u8 0, .int .i32 98, .int .u8 0] 56)).alloc (.cells #[.int .i64 3, .int .i64 4, .int .i64 0, .slice (some ⟨X5.heap.size + 1, 0, none⟩) 3 3, .slice none 0 0, .slice none 0 0, .string ⟨#[]⟩, .slice none 0 0, .bool false, .bool false] 40)).alloc (.cells #[.int .i64 1, .int .i64 0, .int .i64 0, .slice (some ⟨X5.heap.size, 0, none⟩) 1 1, .slice (some ⟨X5.heap.size + 1 + 1, 0, none⟩) 1 1, .slice none 0 0, .string ⟨#[]⟩, .slice none 0 0, .bool false, .bool false] 40) := ⟨_, rfl⟩
  obtain ⟨hw4, b6⟩ := want_is X5 X6 hX6
  have c4 : X6.cell? ⟨o1, 4, none⟩ = some (.slice s1 s2 s3) := (hKD.below b6).cell 4
  have hsm := rsame_any _ _ _ want8 want8 rfl (by decide) (by decide) _ _ X6 ((hN5.keep (Kp.below b6 (fun k q => q))).mono (T := fun k => k < X6.heap.size) (fun k q => Nat.lt_of_lt_of_le q b6.size)) hw4 (fun k q => q) (fun k q => q)
  rw [eqNs_true rfl] at hsm
  have HSM := Lib.hid hsm
  have hBIn := I.keep HBI.out (Kp.below b6 (fun k q => I.lt HBI.out k (.inl q))) (Kp.below b6 (fun k q => I.lt HBI.out k (.inr q))) b6.size
  have hBWn := HBW.out.trans (b6.mono HBW.out.size)
  clear HBI HBW
  have HBI := Lib.hid hBIn
  have HBW := Lib.hid hBWn
  clear hBIn hBWn
  have HX5 := Lib.hid hX5
  have HX6 := Lib.hid hX6
  have HO1 := Lib.hid ho1
  clear hn1 hbd hX5 b5 hKD hN5 hX6 hw4 b6 hsm ho1
  go_upto_region 6 with fail
  rw [← HX5.out]
  try rw [HO1.out]
  go_upto_region 8 with fail
  rw [← HX6.out]
  clear HX5 HX6 HO1
  go_wp2_with fail
  refine HSM.out.mono ?_
  rintro e w5 ⟨rfl, b7⟩
  clear HSM c4
  have hBIn := I.keep HBI.out (Kp.below b7 (fun k q => I.lt HBI.out k (.inl q))) (Kp.below b7 (fun k q => I.lt HBI.out k (.inr q))) b7.size
  have hBWn := HBW.out.trans (b7.mono HBW.out.size)
  clear HBI HBW
  have HBI := Lib.hid hBIn
  have HBW := Lib.hid hBWn
  clear hBIn hBWn
  clear b7
  have hdp := I.depth HBI.out (I.tb HTB.out HBW.out)
  rw [opn8] at hdp
  have HDP := Lib.hid hdp
  clear hdp
  go_wp2_with fail
  refine HDP.out.mono ?_
  rintro e w6 ⟨rfl, b8⟩
  clear HDP
  have hBIn := I.keep HBI.out (Kp.below b8 (fun k q => I.lt HBI.out k (.inl q))) (Kp.below b8 (fun k q => I.lt HBI.out k (.inr q))) b8.size
  have hBWn := HBW.out.trans (b8.mono HBW.out.size)
  clear HBI HBW
  have HBI := Lib.hid hBIn
  have HBW := Lib.hid hBWn
  clear hBIn hBWn
  clear b8
  have HDP := Lib.hid (HNI.out _ (I.tb HTB.out HBW.out))
  go_wp2_with fail
  refine HDP.out.mono ?_
  rintro e w7 ⟨rfl, b9⟩
  clear HDP
  have hBIn := I.keep HBI.out (Kp.below b9 (fun k q => I.lt HBI.out k (.inl q))) (Kp.below b9 (fun k q => I.lt HBI.out k (.inr q))) b9.size
  have hBWn := HBW.out.trans (b9.mono HBW.out.size)
  clear HBI HBW
  have HBI := Lib.hid hBIn
  have HBW := Lib.hid hBWn
  clear hBIn hBWn
  clear b9
  go_wp2_with fail
  go_ret
  exact ⟨rfl, HBW.out⟩
end Go.Proofs.YtpccjgoeoeehoaaDoor
namespace Go.Proofs.YtpccjgoeoeehoaaDoor
open Go.RowKit
/-- The document's own builder, as a step has left it in a box of its own. -/
def StR (S : Nat → Prop) (wq wx : World) (v : Value) (t : Bt) : Prop := ∃ (o2 : Nat) (x : TV), v = .pointer (some ⟨o2, 0, none⟩) ∧ wq.heap.size ≤ o2 ∧ Below wq.heap.size wq wx ∧ Blk wx o2 32 (tvcell t x) ∧ BtIs (fun k => S k ∨ (wq.heap.size ≤ k ∧ k < wx.heap.size ∧ k ≠ o2)) wx x t
theorem StR.a {S : Nat → Prop} {wq W wz : World} {x : TV} {t : Bt} (hS : ∀ k, S k → k < wq.heap.size) (hW : Below wq.heap.size wq W) (hz : Below W.heap.size W wz) (h : BtIs (Mo S W wz) wz x t) : StR S wq (wz.alloc (.cells (tvcell t x).toArray 32)) (.pointer (some ⟨wz.heap.size, 0, none⟩)) t := by
  have hb := below_lit wz (.cells (tvcell t x).toArray 32)
  have h1 := hW.size
  have h2 := hz.size
  have h3 : (wz.alloc (.cells (tvcell t x).toArray 32)).heap.size = wz.heap.size + 1 := World.size_alloc _ _
  refine ⟨_, x, rfl, by omega, (hW.trans (hz.mono h1)).trans (hb.mono (by omega)), heap_alloc_new wz _, (h.keep (Kp.below hb (fun k q => ?_))).mono (fun k q => ?_)⟩
  · rcases q with q | q
    · have := hS k q; omega
    · exact q.2
  · rcases q with q | q
    · exact .inl q
    · exact .inr ⟨by omega, by omega, by omega⟩
theorem StR.b {S : Nat → Prop} {wq W wz : World} {x : TV} {t : Bt} {o2 : Nat} (hS : ∀ k, S k → k < wq.heap.size) (hW : Below wq.heap.size wq W) (ho : wq.heap.size ≤ o2) (hl : o2 < W.heap.size) (hz : Below W.heap.size W wz) (hk : Blk wz o2 32 zTV) (h : BtIs (Mo S W wz) wz x t) : StR S wq (set9 wz o2 t x) (.pointer (some ⟨o2, 0, none⟩)) t := by
  have h1 := hW.size
  have h2 := hz.size
  have hn : ∀ k, Mo S W wz k → k ≠ o2 := fun k q => by
    rcases q with q | q
    · have := hS k q; omega
    · omega
  refine ⟨o2, x, rfl, ho, set9_below (hW.trans (hz.mono h1)) ho t x, set9_blk hk t x, (h.keep (fun k q => set9_heap wz o2 t x (hn k q))).mono (fun k q => ?_)⟩
  rcases q with q | q
  · exact .inl q
  · exact .inr ⟨by omega, by rw [set9_size]; omega, hn k (.inr q)⟩
theorem cell_of_block {W W' : World} {g : Nat} {j : Nat} (h : W'.heap[g]? = W.heap[g]?) : W'.cell? ⟨g, j, none⟩ = W.cell? ⟨g, j, none⟩ := by simp only [World.cell?, h]
set_option maxRecDepth 100000 in
set_option maxHeartbeats 16000000 in
theorem buildsteps_walk (BI : BIT) (TB : World → Prop) (I : Impl BI TB) (hK : ∀ W, TB W → Calls Tryd.prog 9 #[] W fun e w' => e = .returned (.bool true) ∧ Below W.heap.size W w') (l : List Dd) (v : Value) (kd : Int) (w : World) (hTB : TB w) (hv : DosS (fun k => k < w.heap.size) w v l) (hb : ddls l ≤ 1000000000) (hsl : ∀ d ∈ l, d.s.length ≤ 2000000) :
    Calls Tryd.prog 3 #[v, .int .i64 kd] w fun e w' => e = .returned (.bool true) ∧ Below w.heap.size w w' := by
  have HLG := Lib.hid (llong_any _ l v w (fun k q => q) hv hb)
  have hlf : longD l = false → ddls l ≤ 800 ∧ l.length ≤ 60 := longD_false
  obtain ⟨xg, hxg⟩ : ∃ x, longD l = x := ⟨_, rfl⟩
  rw [hxg] at HLG hlf
  have HV := Lib.hid hv
  have HTB := Lib.hid hTB
  have HSL := Lib.hid hsl
  have HLF := Lib.hid hlf
  have HK : Hid (∀ W, Below w.heap.size w W → Calls Tryd.prog 9 #[] W fun e w' => e = .returned (.bool true) ∧ Below w.heap.size w w') := Lib.hid (fun W q => (hK W (I.tb hTB q)).mono fun e w' ⟨e1, e2⟩ => ⟨e1, q.trans (e2.mono q.size)⟩)
  obtain ⟨va, vc, rfl⟩ := hv.len
  obtain ⟨ln, hln⟩ : ∃ n, l.length = n := ⟨_, rfl⟩
  have HLN := Lib.hid hln
  rw [hln] at HV HLG ⊢
  clear hv hTB hsl hlf hxg hln
  go_enter Tryd.func3, Tryd.ntmps3
  go_wp2_with fail
  refine HLG.out.mono ?_
  rintro e w1 ⟨rfl, hb1⟩
  have HB1 := Lib.hid hb1
  clear hb1 HLG
  cases xg with
  | true =>
    go_wp2_with fail
    refine (HK.out _ HB1.out).mono ?_
    rintro e w9 ⟨rfl, b9⟩
    have B9 := Lib.hid b9
    clear b9
    go_wp2_with fail
    go_ret
    exact ⟨rfl, B9.out⟩
  | false =>
    obtain ⟨hl1, hl2⟩ := HLF.out rfl
    rw [HLN.out] at hl2
    have HNW := Lib.hid (I.new w1)
    go_wp2_with fail
    refine HNW.out.mono ?_
    rintro e w2 ⟨b, X0, rfl, h1, h2, h3⟩
    have HBI0 := Lib.hid h1
    have HBW0 : Hid (Below w.heap.size w w2) := Lib.hid (HB1.out.trans (h2.mono HB1.out.size))
    have HX0 : Hid (∀ k, X0 k → w.heap.size ≤ k) := Lib.hid (fun k q => Nat.le_trans HB1.out.size (h3 k q))
    clear h1 h2 h3 HNW
    go_wp2_with fail
    obtain ⟨W0, hW0⟩ : ∃ Y, Y = w2.alloc (.cells #[.string ⟨#[]⟩, .string ⟨#[]⟩, .string ⟨#[]⟩, .string ⟨#[]⟩, .slice none 0 0, .slice none 0 0, .slice none 0 0, .int .i64 0, .bool false] 32) := ⟨_, rfl⟩
    have b0 : Below w2.heap.size w2 W0 := by rw [hW0]; exact below_lit _ _
    rw [← hW0]
    obtain ⟨o, ho⟩ : ∃ q, w2.heap.size = q := ⟨_, rfl⟩
    try rw [ho]
    have hwo : w.heap.size ≤ o := by rw [← ho]; exact HBW0.out.size
    have hlt0 : ∀ k, X0 k → k < o := fun k q => by rw [← ho]; exact I.lt HBI0.out k (.inl q)
    have hsz0 : W0.heap.size = o + 1 := by rw [hW0, World.size_alloc, ho]
    have HBI1 := Lib.hid (I.keep HBI0.out (Kp.below b0 (fun k q => I.lt HBI0.out k (.inl q))) (Kp.below b0 (fun k q => q.elim)) b0.size)
    have HBW1 := Lib.hid (HBW0.out.trans (b0.mono HBW0.out.size))
    have HOB : Hid (Blk W0 o 32 (tvcell bt0 ⟨(none, 0, 0), (none, 0, 0), (none, 0, 0)⟩)) := Lib.hid (by rw [← ho, hW0]; exact heap_alloc_new w2 _)
    have HOT : Hid (BtIs (fun k => k < W0.heap.size ∧ ¬ X0 k ∧ k ≠ o) W0 ⟨(none, 0, 0), (none, 0, 0), (none, 0, 0)⟩ bt0) := Lib.hid ⟨NsS.nil _ _, NsS.nil _ _, FsS.nil _ _ _ _⟩
    have HXO : Hid (∀ k, X0 k ∨ (fun _ => False) k → k ≠ o) := Lib.hid (fun k q => q.elim (fun q => by have := hlt0 k q; omega) (fun q => q.elim))
    have HWO := Lib.hid hwo
    clear hW0 b0 ho hlt0 hsz0 HBI0 HBW0 hwo
    go_loopw [7, 8, 9, 10] (fun i _ _ _ wr => ∃ (p : Nat) (t : Bt) (X R : Nat → Prop) (x : TV), p ≤ ln ∧ i = .int .i64 (p : Int) ∧ Hid (BI X R wr b t) ∧ Hid (Below w.heap.size w wr) ∧ Hid (∀ k, X k → w.heap.size ≤ k) ∧ Hid (∀ k, X k ∨ R k → k ≠ o) ∧ Hid (Blk wr o 32 (tvcell t x)) ∧ Hid (BtIs (fun k => k < wr.heap.size ∧ ¬ X k ∧ k ≠ o) wr x t) ∧ Hid (btl t ≤ ddls (l.take p) + 3 * p)) (fun i _ _ _ _ => ln - (intOf i).toNat)
    case atStart => exact ⟨0, bt0, X0, _, _, by omega, rfl, HBI1, HBW1, HX0, HXO, HOB, HOT, Lib.hid (by show btl bt0 ≤ _; exact Nat.zero_le _)⟩
    case round =>
      obtain ⟨p, t, X, R, x, hp, rfl, HBI, HBW, HX, HXO, HOB, HOT, HBT⟩ := hrel
      by_cases hlt : p < ln
      · skip
        obtain ⟨y, hy⟩ : ∃ y, l[p]? = some y := ⟨l[p]'(by rw [HLN.out]; exact hlt), List.getElem?_eq_getElem _⟩
        have hmem := List.mem_of_getElem? hy
        have HNX := Lib.hid (ddls_next hy)
        have hle := ddls_le hy
        have hst := btl_step t y
        have hbt := HBT.out
        obtain ⟨g, off, dv, rfl, hgS, hC, hD⟩ := (HV.out.keep (Kp.below HBW.out (fun k q => q))).at hy
        have hSX : ∀ k, (fun k => k < w.heap.size) k → k < wr.heap.size ∧ ¬ X k := fun k q => ⟨Nat.lt_of_lt_of_le q HBW.out.size, fun z => by have h1 := HX.out k z; simp only at q; omega⟩
        have HDN := Lib.hid (ldone_any (Aft BI X R (fun k => k < w.heap.size) wr b) (fun k => k < w.heap.size) b t dv y wr (fun k q => (hSX k q).1) hD (HSL.out y hmem) (I.told HBI.out (I.tb HTB.out HBW.out) hD hSX (by omega)))
        obtain ⟨S1, hS1⟩ : ∃ S : Nat → Prop, S = (fun k => k < wr.heap.size ∧ ¬ X k ∧ k ≠ o) := ⟨_, rfl⟩
        have hol : o < wr.heap.size := (Array.getElem?_eq_some_iff.1 HOB.out).1
        obtain ⟨⟨a1, a2, a3⟩, ⟨b1, b2, b3⟩, ⟨e1, e2, e3⟩⟩ := x
        have HDS := Lib.hid hD
        have HSL' := Lib.hid (HSL.out y hmem)
        have HLB := Lib.hid (show btl t + ddl y ≤ 30000 by omega)
        have hlt' : (p : Int) < (ln : Int) := by omega
        have hp0 : (0 : Int) ≤ (p : Int) := by omega
        obtain ⟨dk, ⟨s1, s2, s3⟩, ⟨xk, xl, xn, ⟨t1, t2, t3⟩, ⟨k1, k2, k3⟩, ⟨r1, r2, r3⟩, xc, ⟨q1, q2, q3⟩, xb, xa⟩, dn, ⟨l1, l2, l3⟩, ⟨g1, g2, g3⟩⟩ := dv
        simp only [dcell, pv] at HDN
        have c0 : wr.cell? ⟨g, off + p * 15, none⟩ = some (.int .i64 dk) := hC 0 _ rfl
        have c1 : wr.cell? ⟨g, off + p * 15 + 1, none⟩ = some (.slice s1 s2 s3) := hC 1 _ rfl
        have c2 : wr.cell? ⟨g, off + p * 15 + 2, none⟩ = some (.int .i64 xk) := hC 2 _ rfl
        have c3 : wr.cell? ⟨g, off + p * 15 + 3, none⟩ = some (.int .i64 xl) := hC 3 _ rfl
        have c4 : wr.cell? ⟨g, off + p * 15 + 4, none⟩ = some (.int .i64 xn) := hC 4 _ rfl
        have c5 : wr.cell? ⟨g, off + p * 15 + 5, none⟩ = some (.slice t1 t2 t3) := hC 5 _ rfl
        have c6 : wr.cell? ⟨g, off + p * 15 + 6, none⟩ = some (.slice k1 k2 k3) := hC 6 _ rfl
        have c7 : wr.cell? ⟨g, off + p * 15 + 7, none⟩ = some (.slice r1 r2 r3) := hC 7 _ rfl
        have c8 : wr.cell? ⟨g, off + p * 15 + 8, none⟩ = some (.string ⟨xc.toArray⟩) := hC 8 _ rfl
        have c9 : wr.cell? ⟨g, off + p * 15 + 9, none⟩ = some (.slice q1 q2 q3) := hC 9 _ rfl
        have c10 : wr.cell? ⟨g, off + p * 15 + 10, none⟩ = some (.bool xb) := hC 10 _ rfl
        have c11 : wr.cell? ⟨g, off + p * 15 + 11, none⟩ = some (.bool xa) := hC 11 _ rfl
        have c12 : wr.cell? ⟨g, off + p * 15 + 12, none⟩ = some (.int .i64 dn) := hC 12 _ rfl
        have c13 : wr.cell? ⟨g, off + p * 15 + 13, none⟩ = some (.slice l1 l2 l3) := hC 13 _ rfl
        have c14 : wr.cell? ⟨g, off + p * 15 + 14, none⟩ = some (.slice g1 g2 g3) := hC 14 _ rfl
        have HCC := Lib.hid hC
        have hgw : g < wr.heap.size := by
          have h := c0
          simp only [World.cell?] at h
          by_cases hg : g < wr.heap.size
          · exact hg
          · rw [Array.getElem?_eq_none (by omega)] at h; cases h
        have HST : Hid (btl (bStep t y).1 ≤ ddls (l.take (p + 1)) + 3 * (p + 1)) := Lib.hid (by rw [HNX.out]; omega)
        have HGX : Hid (¬ X g) := Lib.hid (fun z => by have := HX.out g z; (try simp only at hgS); omega)
        clear hgS
        clear hy hmem hC hD hSX hst hbt hle HBT HNX
        obtain ⟨⟨t2', is⟩, ht2⟩ : ∃ q, bStep t y = q := ⟨_, rfl⟩
        rw [ht2] at HDN HST
        have HT2 := Lib.hid ht2
        clear ht2
        simp only at HDN HST
        go_wp2_with fail
        refine HDN.out.mono ?_
        rintro e wq ⟨rfl, X', R', h1, h2, h3, h4⟩
        have hsz : wr.heap.size ≤ wq.heap.size := h2.size
        have hBW := h2.below HBW.out.size HX.out
        have hX' : ∀ k, X' k → w.heap.size ≤ k := fun k q => (h3 k q).elim (HX.out k) (fun z => Nat.le_trans HBW.out.size z)
        have hXO : ∀ k, X' k ∨ R' k → k ≠ o := fun k q e => by
          subst e
          rcases q with q | q
          · rcases h3 k q with z | z
            · exact HXO.out k (.inl z) rfl
            · omega
          · rcases h4 k q with z | z | z | z
            · exact HXO.out k (.inr z) rfl
            · have := HWO.out; (try simp only at z); omega
            · exact HXO.out k (.inl z) rfl
            · omega
        have hOB : Blk wq o 32 (tvcell t ⟨(a1, a2, a3), (b1, b2, b3), (e1, e2, e3)⟩) := (h2.block o hol (fun z => HXO.out o (.inl z) rfl)).trans HOB.out
        obtain ⟨S3, hS3⟩ : ∃ S : Nat → Prop, S = (fun k => k < wq.heap.size ∧ ¬ X' k ∧ k ≠ o) := ⟨_, rfl⟩
        have hS3lt : ∀ k, S3 k → k < wq.heap.size := fun k q => by rw [hS3] at q; exact q.1
        have hOT : BtIs S3 wq ⟨(a1, a2, a3), (b1, b2, b3), (e1, e2, e3)⟩ t := (HOT.out.keep (h2.kp (fun k q => ⟨q.1, q.2.1⟩))).mono (fun k q => by
          rw [hS3]
          exact ⟨by omega, fun z => (h3 k z).elim q.2.1 (fun z => by omega), q.2.2⟩)
        have hD3 := (HDS.out.keep (h2.kp (fun k q => ⟨Nat.lt_of_lt_of_le q HBW.out.size, fun z => by have := HX.out k z; omega⟩))).mono (T := S3) (fun k q => by
          rw [hS3]
          (try simp only at q)
          have := HWO.out
          have := HBW.out.size
          exact ⟨by omega, fun z => by have := hX' k z; omega, by omega⟩)
        have HSP : Hid (∀ W, Below wq.heap.size wq W → Calls Tryd.prog 12 #[.agg #[.string ⟨t.nm.a.toArray⟩, .string ⟨t.nm.b.toArray⟩, .string ⟨t.nm.c.toArray⟩, .string ⟨t.nm.d.toArray⟩, .slice a1 a2 a3, .slice b1 b2 b3, .slice e1 e2 e3, .int .i64 t.line, .bool t.has], .agg #[.int .i64 dk, .slice s1 s2 s3, .int .i64 xk, .int .i64 xl, .int .i64 xn, .slice t1 t2 t3, .slice k1 k2 k3, .slice r1 r2 r3, .string ⟨xc.toArray⟩, .slice q1 q2 q3, .bool xb, .bool xa, .int .i64 dn, .slice l1 l2 l3, .slice g1 g2 g3]] W (ClQ S3 (t2', is) W)) := Lib.hid (fun W hb => by
          have h := rstep_any S3 ⟨(a1, a2, a3), (b1, b2, b3), (e1, e2, e3)⟩ t _ y W (fun k q => Nat.lt_of_lt_of_le (hS3lt k q) hb.size) (hOT.keep (Kp.below hb hS3lt)) (hD3.keep (Kp.below hb hS3lt)) HLB.out HSL'.out
          rw [HT2.out] at h
          exact h)
        have HBI2 := Lib.hid h1
        have HBW2 := Lib.hid (HBW.out.trans hBW)
        have HX2 := Lib.hid hX'
        have HXO2 := Lib.hid hXO
        have HOB2 := Lib.hid hOB
        have HS3 := Lib.hid hS3
        have HS3L := Lib.hid hS3lt
        have d0 : wq.cell? ⟨g, off + p * 15, none⟩ = some (.int .i64 dk) := by rw [← c0]; exact cell_of_block (h2.block g hgw (fun z => HGX.out z))
        have d1 : wq.cell? ⟨g, off + p * 15 + 1, none⟩ = some (.slice s1 s2 s3) := by rw [← c1]; exact cell_of_block (h2.block g hgw (fun z => HGX.out z))
        have d2 : wq.cell? ⟨g, off + p * 15 + 2, none⟩ = some (.int .i64 xk) := by rw [← c2]; exact cell_of_block (h2.block g hgw (fun z => HGX.out z))
        have d3 : wq.cell? ⟨g, off + p * 15 + 3, none⟩ = some (.int .i64 xl) := by rw [← c3]; exact cell_of_block (h2.block g hgw (fun z => HGX.out z))
        have d4 : wq.cell? ⟨g, off + p * 15 + 4, none⟩ = some (.int .i64 xn) := by rw [← c4]; exact cell_of_block (h2.block g hgw (fun z => HGX.out z))
        have d5 : wq.cell? ⟨g, off + p * 15 + 5, none⟩ = some (.slice t1 t2 t3) := by rw [← c5]; exact cell_of_block (h2.block g hgw (fun z => HGX.out z))
        have d6 : wq.cell? ⟨g, off + p * 15 + 6, none⟩ = some (.slice k1 k2 k3) := by rw [← c6]; exact cell_of_block (h2.block g hgw (fun z => HGX.out z))
        have d7 : wq.cell? ⟨g, off + p * 15 + 7, none⟩ = some (.slice r1 r2 r3) := by rw [← c7]; exact cell_of_block (h2.block g hgw (fun z => HGX.out z))
        have d8 : wq.cell? ⟨g, off + p * 15 + 8, none⟩ = some (.string ⟨xc.toArray⟩) := by rw [← c8]; exact cell_of_block (h2.block g hgw (fun z => HGX.out z))
        have d9 : wq.cell? ⟨g, off + p * 15 + 9, none⟩ = some (.slice q1 q2 q3) := by rw [← c9]; exact cell_of_block (h2.block g hgw (fun z => HGX.out z))
        have d10 : wq.cell? ⟨g, off + p * 15 + 10, none⟩ = some (.bool xb) := by rw [← c10]; exact cell_of_block (h2.block g hgw (fun z => HGX.out z))
        have d11 : wq.cell? ⟨g, off + p * 15 + 11, none⟩ = some (.bool xa) := by rw [← c11]; exact cell_of_block (h2.block g hgw (fun z => HGX.out z))
        have d12 : wq.cell? ⟨g, off + p * 15 + 12, none⟩ = some (.int .i64 dn) := by rw [← c12]; exact cell_of_block (h2.block g hgw (fun z => HGX.out z))
        have d13 : wq.cell? ⟨g, off + p * 15 + 13, none⟩ = some (.slice l1 l2 l3) := by rw [← c13]; exact cell_of_block (h2.block g hgw (fun z => HGX.out z))
        have d14 : wq.cell? ⟨g, off + p * 15 + 14, none⟩ = some (.slice g1 g2 g3) := by rw [← c14]; exact cell_of_block (h2.block g hgw (fun z => HGX.out z))
        have y0 : wq.cell? ⟨o, 0, none⟩ = some (.string ⟨t.nm.a.toArray⟩) := hOB.cell 0
        have y1 : wq.cell? ⟨o, 1, none⟩ = some (.string ⟨t.nm.b.toArray⟩) := hOB.cell 1
        have y2 : wq.cell? ⟨o, 2, none⟩ = some (.string ⟨t.nm.c.toArray⟩) := hOB.cell 2
        have y3 : wq.cell? ⟨o, 3, none⟩ = some (.string ⟨t.nm.d.toArray⟩) := hOB.cell 3
        have y4 : wq.cell? ⟨o, 4, none⟩ = some (.slice a1 a2 a3) := hOB.cell 4
        have y5 : wq.cell? ⟨o, 5, none⟩ = some (.slice b1 b2 b3) := hOB.cell 5
        have y6 : wq.cell? ⟨o, 6, none⟩ = some (.slice e1 e2 e3) := hOB.cell 6
        have y7 : wq.cell? ⟨o, 7, none⟩ = some (.int .i64 t.line) := hOB.cell 7
        have y8 : wq.cell? ⟨o, 8, none⟩ = some (.bool t.has) := hOB.cell 8
        have hgq : g < wq.heap.size := Nat.lt_of_lt_of_le hgw hsz
        have hgn : g ≠ wq.heap.size := Nat.ne_of_lt hgq
        have hoq : o < wq.heap.size := Nat.lt_of_lt_of_le hol hsz
        have hon : o ≠ wq.heap.size := Nat.ne_of_lt hoq
        clear c0 c1 c2 c3 c4 c5 c6 c7 c8 c9 c10 c11 c12 c13 c14 h1 h2 h3 h4 hsz hBW hX' hXO hOB hS3 hS3lt hOT hD3 hS1 HBI HBW HX HXO HOB HOT HDN HDS HCC HLB HSL' HT2 hol hgw HGX
        go_upto_region 9 with fail
        go_cut [9, 10] (fun s9 s10 wx => StR S3 wq wx s9 t2' ∧ s10 = .bool is)
        case first =>
          have HXX := Lib.hid (Below.refl wq.heap.size wq).drew
          have HS9 : Hid (∀ W, Below wq.heap.size wq W → W.cell? ⟨o, 0, none⟩ = some (.string ⟨t.nm.a.toArray⟩) ∧ W.cell? ⟨o, 1, none⟩ = some (.string ⟨t.nm.b.toArray⟩) ∧ W.cell? ⟨o, 2, none⟩ = some (.string ⟨t.nm.c.toArray⟩) ∧ W.cell? ⟨o, 3, none⟩ = some (.string ⟨t.nm.d.toArray⟩) ∧ W.cell? ⟨o, 4, none⟩ = some (.slice a1 a2 a3) ∧ W.cell? ⟨o, 5, none⟩ = some (.slice b1 b2 b3) ∧ W.cell? ⟨o, 6, none⟩ = some (.slice e1 e2 e3) ∧ W.cell? ⟨o, 7, none⟩ = some (.int .i64 t.line) ∧ W.cell? ⟨o, 8, none⟩ = some (.bool t.has) ∧ W.cell? ⟨g, off + p * 15, none⟩ = some (.int .i64 dk) ∧ W.cell? ⟨g, off + p * 15 + 1, none⟩ = some (.slice s1 s2 s3) ∧ W.cell? ⟨g, off + p * 15 + 2, none⟩ = some (.int .i64 xk) ∧ W.cell? ⟨g, off + p * 15 + 3, none⟩ = some (.int .i64 xl) ∧ W.cell? ⟨g, off + p * 15 + 4, none⟩ = some (.int .i64 xn) ∧ W.cell? ⟨g, off + p * 15 + 5, none⟩ = some (.slice t1 t2 t3) ∧ W.cell? ⟨g, off + p * 15 + 6, none⟩ = some (.slice k1 k2 k3) ∧ W.cell? ⟨g, off + p * 15 + 7, none⟩ = some (.slice r1 r2 r3) ∧ W.cell? ⟨g, off + p * 15 + 8, none⟩ = some (.string ⟨xc.toArray⟩) ∧ W.cell? ⟨g, off + p * 15 + 9, none⟩ = some (.slice q1 q2 q3) ∧ W.cell? ⟨g, off + p * 15 + 10, none⟩ = some (.bool xb) ∧ W.cell? ⟨g, off + p * 15 + 11, none⟩ = some (.bool xa) ∧ W.cell? ⟨g, off + p * 15 + 12, none⟩ = some (.int .i64 dn) ∧ W.cell? ⟨g, off + p * 15 + 13, none⟩ = some (.slice l1 l2 l3) ∧ W.cell? ⟨g, off + p * 15 + 14, none⟩ = some (.slice g1 g2 g3)) := Lib.hid (fun W hb => ⟨(cell_of_block (hb.block o hoq)).trans y0, (cell_of_block (hb.block o hoq)).trans y1, (cell_of_block (hb.block o hoq)).trans y2, (cell_of_block (hb.block o hoq)).trans y3, (cell_of_block (hb.block o hoq)).trans y4, (cell_of_block (hb.block o hoq)).trans y5, (cell_of_block (hb.block o hoq)).trans y6, (cell_of_block (hb.block o hoq)).trans y7, (cell_of_block (hb.block o hoq)).trans y8, (cell_of_block (hb.block g hgq)).trans d0, (cell_of_block (hb.block g hgq)).trans d1, (cell_of_block (hb.block g hgq)).trans d2, (cell_of_block (hb.block g hgq)).trans d3, (cell_of_block (hb.block g hgq)).trans d4, (cell_of_block (hb.block g hgq)).trans d5, (cell_of_block (hb.block g hgq)).trans d6, (cell_of_block (hb.block g hgq)).trans d7, (cell_of_block (hb.block g hgq)).trans d8, (cell_of_block (hb.block g hgq)).trans d9, (cell_of_block (hb.block g hgq)).trans d10, (cell_of_block (hb.block g hgq)).trans d11, (cell_of_block (hb.block g hgq)).trans d12, (cell_of_block (hb.block g hgq)).trans d13, (cell_of_block (hb.block g hgq)).trans d14⟩)
          refine wp_region_held_drew (S := (fun W' => W'.cell? ⟨o, 0, none⟩ = some (.string ⟨t.nm.a.toArray⟩) ∧ W'.cell? ⟨o, 1, none⟩ = some (.string ⟨t.nm.b.toArray⟩) ∧ W'.cell? ⟨o, 2, none⟩ = some (.string ⟨t.nm.c.toArray⟩) ∧ W'.cell? ⟨o, 3, none⟩ = some (.string ⟨t.nm.d.toArray⟩) ∧ W'.cell? ⟨o, 4, none⟩ = some (.slice a1 a2 a3) ∧ W'.cell? ⟨o, 5, none⟩ = some (.slice b1 b2 b3) ∧ W'.cell? ⟨o, 6, none⟩ = some (.slice e1 e2 e3) ∧ W'.cell? ⟨o, 7, none⟩ = some (.int .i64 t.line) ∧ W'.cell? ⟨o, 8, none⟩ = some (.bool t.has) ∧ W'.cell? ⟨g, off + p * 15, none⟩ = some (.int .i64 dk) ∧ W'.cell? ⟨g, off + p * 15 + 1, none⟩ = some (.slice s1 s2 s3) ∧ W'.cell? ⟨g, off + p * 15 + 2, none⟩ = some (.int .i64 xk) ∧ W'.cell? ⟨g, off + p * 15 + 3, none⟩ = some (.int .i64 xl) ∧ W'.cell? ⟨g, off + p * 15 + 4, none⟩ = some (.int .i64 xn) ∧ W'.cell? ⟨g, off + p * 15 + 5, none⟩ = some (.slice t1 t2 t3) ∧ W'.cell? ⟨g, off + p * 15 + 6, none⟩ = some (.slice k1 k2 k3) ∧ W'.cell? ⟨g, off + p * 15 + 7, none⟩ = some (.slice r1 r2 r3) ∧ W'.cell? ⟨g, off + p * 15 + 8, none⟩ = some (.string ⟨xc.toArray⟩) ∧ W'.cell? ⟨g, off + p * 15 + 9, none⟩ = some (.slice q1 q2 q3) ∧ W'.cell? ⟨g, off + p * 15 + 10, none⟩ = some (.bool xb) ∧ W'.cell? ⟨g, off + p * 15 + 11, none⟩ = some (.bool xa) ∧ W'.cell? ⟨g, off + p * 15 + 12, none⟩ = some (.int .i64 dn) ∧ W'.cell? ⟨g, off + p * 15 + 13, none⟩ = some (.slice l1 l2 l3) ∧ W'.cell? ⟨g, off + p * 15 + 14, none⟩ = some (.slice g1 g2 g3))) (by kernel_rfl) ?_ (fun hHeld => ?_)
          · exact HS9.out _ HXX.out
          refine wpAnyH_take (i := 0) (v := .agg #[.string ⟨t.nm.a.toArray⟩, .string ⟨t.nm.b.toArray⟩, .string ⟨t.nm.c.toArray⟩, .string ⟨t.nm.d.toArray⟩, .slice a1 a2 a3, .slice b1 b2 b3, .slice e1 e2 e3, .int .i64 t.line, .bool t.has]) rfl (by kernel_rfl) (by kernel_rfl) (by kernel_rfl) (fun _ _ _ h => h) (Or.inl ⟨by rfl, fun w' hSw => by (try dsimp only at hSw); go_simp⟩) (by assumption) ?_
          simp only [List.getElem_toArray, List.getElem_cons_succ, List.getElem_cons_zero, Act.put, List.setIfInBounds_toArray, List.set_cons_zero, List.set_cons_succ]
          refine wpAnyH_take (i := 1) (v := .slice (some ⟨g, off, none⟩) ln vc) rfl (by kernel_rfl) (by kernel_rfl) (by kernel_rfl) (fun _ _ _ h => h) (Or.inl ⟨by rfl, fun w' hSw => by (try dsimp only at hSw); go_simp⟩) (by assumption) ?_
          simp only [List.getElem_toArray, List.getElem_cons_succ, List.getElem_cons_zero, Act.put, List.setIfInBounds_toArray, List.set_cons_zero, List.set_cons_succ]
          refine wpAnyH_take (i := 2) (v := .int .i64 (p : Int)) rfl (by kernel_rfl) (by kernel_rfl) (by kernel_rfl) (fun _ _ _ h => h) (Or.inl ⟨by rfl, fun w' hSw => by (try dsimp only at hSw); go_simp⟩) (by assumption) ?_
          simp only [List.getElem_toArray, List.getElem_cons_succ, List.getElem_cons_zero, Act.put, List.setIfInBounds_toArray, List.set_cons_zero, List.set_cons_succ]
          refine wpAnyH_take (i := 3) (v := .pointer (some ⟨g, off + p * 15, none⟩)) rfl (by kernel_rfl) (by kernel_rfl) (by kernel_rfl) (fun _ _ _ h => h) (Or.inl ⟨by rfl, fun w' hSw => by (try dsimp only at hSw); go_simp⟩) (by assumption) ?_
          simp only [List.getElem_toArray, List.getElem_cons_succ, List.getElem_cons_zero, Act.put, List.setIfInBounds_toArray, List.set_cons_zero, List.set_cons_succ]
          refine wpAnyH_take (i := 4) (v := .agg #[.int .i64 dk, .slice s1 s2 s3, .int .i64 xk, .int .i64 xl, .int .i64 xn, .slice t1 t2 t3, .slice k1 k2 k3, .slice r1 r2 r3, .string ⟨xc.toArray⟩, .slice q1 q2 q3, .bool xb, .bool xa, .int .i64 dn, .slice l1 l2 l3, .slice g1 g2 g3]) rfl (by kernel_rfl) (by kernel_rfl) (by kernel_rfl) (fun _ _ _ h => h) (Or.inl ⟨by rfl, fun w' hSw => by (try dsimp only at hSw); go_simp⟩) (by assumption) ?_
          simp only [List.getElem_toArray, List.getElem_cons_succ, List.getElem_cons_zero, Act.put, List.setIfInBounds_toArray, List.set_cons_zero, List.set_cons_succ]
          refine wpAnyH_ready (rs := [5, 9]) (by kernel_rfl) (by simp) ?_
          refine AllReadyH.cons rfl (fun K hK => ?_) (AllReadyH.cons rfl (fun K hK => ?_) AllReadyH.nil)
          · try simp only [List.getElem_toArray, List.getElem_cons_succ, List.getElem_cons_zero]
            go_simp
            go_at_call 12
            refine (HSP.out _ HXX.out).mono ?_
            rintro e wz ⟨⟨⟨h1, h2, h3⟩, ⟨i1, i2, i3⟩, ⟨j1, j2, j3⟩⟩, rfl, hbt, hbz⟩
            simp only [tvcell, pv]
            have HXZ := Lib.hid (HXX.out.trans (hbz.mono HXX.out.size))
            go_wp2_with fail
            refine hK.out _ _ ?_ (fun hHeld => ?_)
            · exact HS9.out _ HXZ.out
            clear hK K
            try simp only [List.getElem_toArray, List.getElem_cons_succ, List.getElem_cons_zero, Act.put, List.setIfInBounds_toArray, List.set_cons_zero, List.set_cons_succ]
            refine wpAnyH_take (i := 6) (v := .tuple #[.agg #[.string ⟨t2'.nm.a.toArray⟩, .string ⟨t2'.nm.b.toArray⟩, .string ⟨t2'.nm.c.toArray⟩, .string ⟨t2'.nm.d.toArray⟩, .slice h1 h2 h3, .slice i1 i2 i3, .slice j1 j2 j3, .int .i64 t2'.line, .bool t2'.has], .bool is]) rfl (by kernel_rfl) (by kernel_rfl) (by kernel_rfl) (fun _ _ _ h => h) (Or.inl ⟨by rfl, fun w' hSw => by (try dsimp only at hSw); go_simp⟩) (by assumption) ?_
            simp only [List.getElem_toArray, List.getElem_cons_succ, List.getElem_cons_zero, Act.put, List.setIfInBounds_toArray, List.set_cons_zero, List.set_cons_succ]
            refine wpAnyH_take (i := 7) (v := .agg #[.string ⟨t2'.nm.a.toArray⟩, .string ⟨t2'.nm.b.toArray⟩, .string ⟨t2'.nm.c.toArray⟩, .string ⟨t2'.nm.d.toArray⟩, .slice h1 h2 h3, .slice i1 i2 i3, .slice j1 j2 j3, .int .i64 t2'.line, .bool t2'.has]) rfl (by kernel_rfl) (by kernel_rfl) (by kernel_rfl) (fun _ _ _ h => h) (Or.inl ⟨by rfl, fun w' hSw => by (try dsimp only at hSw); go_simp⟩) (by assumption) ?_
            simp only [List.getElem_toArray, List.getElem_cons_succ, List.getElem_cons_zero, Act.put, List.setIfInBounds_toArray, List.set_cons_zero, List.set_cons_succ]
            refine wpAnyH_take (i := 8) (v := .bool is) rfl (by kernel_rfl) (by kernel_rfl) (by kernel_rfl) (fun _ _ _ h => h) (Or.inl ⟨by rfl, fun w' hSw => by (try dsimp only at hSw); go_simp⟩) (by assumption) ?_
            simp only [List.getElem_toArray, List.getElem_cons_succ, List.getElem_cons_zero, Act.put, List.setIfInBounds_toArray, List.set_cons_zero, List.set_cons_succ]
            refine wpAnyH_ready (rs := [9]) (by kernel_rfl) (by simp) ?_
            refine AllReadyH.cons rfl (fun K hK => ?_) AllReadyH.nil
            try simp only [List.getElem_toArray, List.getElem_cons_succ, List.getElem_cons_zero]
            go_simp
            refine hK.out _ _ ?_ (fun hHeld => ?_)
            · exact HS9.out _ (HXZ.out.trans ((below_lit wz _).mono HXZ.out.size))
            clear hK K
            try simp only [List.getElem_toArray, List.getElem_cons_succ, List.getElem_cons_zero, Act.put, List.setIfInBounds_toArray, List.set_cons_zero, List.set_cons_succ]
            refine wpAnyH_ready (rs := [10]) (by kernel_rfl) (by simp) ?_
            refine AllReadyH.cons rfl (fun K hK => ?_) AllReadyH.nil
            try simp only [List.getElem_toArray, List.getElem_cons_succ, List.getElem_cons_zero]
            go_simp
            refine hK.out _ _ ?_ (fun hHeld => ?_)
            · exact HS9.out _ (HXZ.out.trans ((below_lit wz _).mono HXZ.out.size))
            clear hK K
            try simp only [List.getElem_toArray, List.getElem_cons_succ, List.getElem_cons_zero, Act.put, List.setIfInBounds_toArray, List.set_cons_zero, List.set_cons_succ]
            refine wpAnyH_take (i := 11) (v := .bool is) rfl (by kernel_rfl) (by kernel_rfl) (by kernel_rfl) (fun _ _ _ h => h) (Or.inl ⟨by rfl, fun w' hSw => by (try dsimp only at hSw); go_simp⟩) (by assumption) ?_
            simp only [List.getElem_toArray, List.getElem_cons_succ, List.getElem_cons_zero, Act.put, List.setIfInBounds_toArray, List.set_cons_zero, List.set_cons_succ]
            refine wpAnyH_done (by kernel_rfl) ?_ _
            go_wp2_with fail
            go_meet
            exact ⟨StR.a (x := ⟨(h1, h2, h3), (i1, i2, i3), (j1, j2, j3)⟩) HS3L.out HXX.out hbz hbt, rfl⟩
          · try simp only [List.getElem_toArray, List.getElem_cons_succ, List.getElem_cons_zero]
            go_simp
            refine hK.out _ _ ?_ (fun hHeld => ?_)
            · exact HS9.out _ (below_lit wq _).drew
            clear hK K
            try simp only [List.getElem_toArray, List.getElem_cons_succ, List.getElem_cons_zero, Act.put, List.setIfInBounds_toArray, List.set_cons_zero, List.set_cons_succ]
            have HXB := Lib.hid (below_lit wq (.cells #[.string ⟨#[]⟩, .string ⟨#[]⟩, .string ⟨#[]⟩, .string ⟨#[]⟩, .slice none 0 0, .slice none 0 0, .slice none 0 0, .int .i64 0, .bool false] 32)).drew
            refine wpAnyH_ready (rs := [5]) (by kernel_rfl) (by simp) ?_
            refine AllReadyH.cons rfl (fun K hK => ?_) AllReadyH.nil
            try simp only [List.getElem_toArray, List.getElem_cons_succ, List.getElem_cons_zero]
            go_simp
            go_at_call 12
            refine (HSP.out _ HXB.out).mono ?_
            rintro e wz ⟨⟨⟨h1, h2, h3⟩, ⟨i1, i2, i3⟩, ⟨j1, j2, j3⟩⟩, rfl, hbt, hbz⟩
            simp only [tvcell, pv]
            have HXZ := Lib.hid (HXB.out.trans (hbz.mono HXB.out.size))
            have hk : Blk wz wq.heap.size 32 zTV := Blk.below (W := (wq.alloc (.cells #[.string ⟨#[]⟩, .string ⟨#[]⟩, .string ⟨#[]⟩, .string ⟨#[]⟩, .slice none 0 0, .slice none 0 0, .slice none 0 0, .int .i64 0, .bool false] 32)).drew) (heap_alloc_new wq _) hbz
            have z0 : wz.cell? ⟨wq.heap.size, 0, none⟩ = some (.string ⟨#[]⟩) := hk.cell 0
            have z1 : wz.cell? ⟨wq.heap.size, 1, none⟩ = some (.string ⟨#[]⟩) := hk.cell 1
            have z2 : wz.cell? ⟨wq.heap.size, 2, none⟩ = some (.string ⟨#[]⟩) := hk.cell 2
            have z3 : wz.cell? ⟨wq.heap.size, 3, none⟩ = some (.string ⟨#[]⟩) := hk.cell 3
            have z4 : wz.cell? ⟨wq.heap.size, 4, none⟩ = some (.slice none 0 0) := hk.cell 4
            have z5 : wz.cell? ⟨wq.heap.size, 5, none⟩ = some (.slice none 0 0) := hk.cell 5
            have z6 : wz.cell? ⟨wq.heap.size, 6, none⟩ = some (.slice none 0 0) := hk.cell 6
            have z7 : wz.cell? ⟨wq.heap.size, 7, none⟩ = some (.int .i64 0) := hk.cell 7
            have z8 : wz.cell? ⟨wq.heap.size, 8, none⟩ = some (.bool false) := hk.cell 8
            have v0 : wz.frozen? ⟨wq.heap.size, 0, none⟩ = false := hk.frozen (by simp [zTV])
            have v1 : wz.frozen? ⟨wq.heap.size, 1, none⟩ = false := hk.frozen (by simp [zTV])
            have v2 : wz.frozen? ⟨wq.heap.size, 2, none⟩ = false := hk.frozen (by simp [zTV])
            have v3 : wz.frozen? ⟨wq.heap.size, 3, none⟩ = false := hk.frozen (by simp [zTV])
            have v4 : wz.frozen? ⟨wq.heap.size, 4, none⟩ = false := hk.frozen (by simp [zTV])
            have v5 : wz.frozen? ⟨wq.heap.size, 5, none⟩ = false := hk.frozen (by simp [zTV])
            have v6 : wz.frozen? ⟨wq.heap.size, 6, none⟩ = false := hk.frozen (by simp [zTV])
            have v7 : wz.frozen? ⟨wq.heap.size, 7, none⟩ = false := hk.frozen (by simp [zTV])
            have v8 : wz.frozen? ⟨wq.heap.size, 8, none⟩ = false := hk.frozen (by simp [zTV])
            go_wp2_with fail
            refine hK.out _ _ ?_ (fun hHeld => ?_)
            · exact HS9.out _ HXZ.out
            clear hK K
            try simp only [List.getElem_toArray, List.getElem_cons_succ, List.getElem_cons_zero, Act.put, List.setIfInBounds_toArray, List.set_cons_zero, List.set_cons_succ]
            refine wpAnyH_take (i := 6) (v := .tuple #[.agg #[.string ⟨t2'.nm.a.toArray⟩, .string ⟨t2'.nm.b.toArray⟩, .string ⟨t2'.nm.c.toArray⟩, .string ⟨t2'.nm.d.toArray⟩, .slice h1 h2 h3, .slice i1 i2 i3, .slice j1 j2 j3, .int .i64 t2'.line, .bool t2'.has], .bool is]) rfl (by kernel_rfl) (by kernel_rfl) (by kernel_rfl) (fun _ _ _ h => h) (Or.inl ⟨by rfl, fun w' hSw => by (try dsimp only at hSw); go_simp⟩) (by assumption) ?_
            simp only [List.getElem_toArray, List.getElem_cons_succ, List.getElem_cons_zero, Act.put, List.setIfInBounds_toArray, List.set_cons_zero, List.set_cons_succ]
            refine wpAnyH_take (i := 7) (v := .agg #[.string ⟨t2'.nm.a.toArray⟩, .string ⟨t2'.nm.b.toArray⟩, .string ⟨t2'.nm.c.toArray⟩, .string ⟨t2'.nm.d.toArray⟩, .slice h1 h2 h3, .slice i1 i2 i3, .slice j1 j2 j3, .int .i64 t2'.line, .bool t2'.has]) rfl (by kernel_rfl) (by kernel_rfl) (by kernel_rfl) (fun _ _ _ h => h) (Or.inl ⟨by rfl, fun w' hSw => by (try dsimp only at hSw); go_simp⟩) (by assumption) ?_
            simp only [List.getElem_toArray, List.getElem_cons_succ, List.getElem_cons_zero, Act.put, List.setIfInBounds_toArray, List.set_cons_zero, List.set_cons_succ]
            refine wpAnyH_take (i := 8) (v := .bool is) rfl (by kernel_rfl) (by kernel_rfl) (by kernel_rfl) (fun _ _ _ h => h) (Or.inl ⟨by rfl, fun w' hSw => by (try dsimp only at hSw); go_simp⟩) (by assumption) ?_
            simp only [List.getElem_toArray, List.getElem_cons_succ, List.getElem_cons_zero, Act.put, List.setIfInBounds_toArray, List.set_cons_zero, List.set_cons_succ]
            refine wpAnyH_ready (rs := [10]) (by kernel_rfl) (by simp) ?_
            refine AllReadyH.cons rfl (fun K hK => ?_) AllReadyH.nil
            try simp only [List.getElem_toArray, List.getElem_cons_succ, List.getElem_cons_zero]
            go_simp
            refine hK.out _ _ ?_ (fun hHeld => ?_)
            · exact HS9.out _ (set9_below HXZ.out (Nat.le_refl _) t2' ⟨(h1, h2, h3), (i1, i2, i3), (j1, j2, j3)⟩)
            clear hK K
            try simp only [List.getElem_toArray, List.getElem_cons_succ, List.getElem_cons_zero, Act.put, List.setIfInBounds_toArray, List.set_cons_zero, List.set_cons_succ]
            refine wpAnyH_take (i := 11) (v := .bool is) rfl (by kernel_rfl) (by kernel_rfl) (by kernel_rfl) (fun _ _ _ h => h) (Or.inl ⟨by rfl, fun w' hSw => by (try dsimp only at hSw); go_simp⟩) (by assumption) ?_
            simp only [List.getElem_toArray, List.getElem_cons_succ, List.getElem_cons_zero, Act.put, List.setIfInBounds_toArray, List.set_cons_zero, List.set_cons_succ]
            refine wpAnyH_done (by kernel_rfl) ?_ _
            go_wp2_with fail
            go_meet
            exact ⟨StR.b (o2 := wq.heap.size) (x := ⟨(h1, h2, h3), (i1, i2, i3), (j1, j2, j3)⟩) HS3L.out HXB.out (Nat.le_refl _) (by show wq.heap.size < (wq.alloc _).heap.size; rw [World.size_alloc]; omega) hbz hk hbt, rfl⟩
        case rest =>
        obtain ⟨⟨o2, ⟨⟨h1, h2, h3⟩, ⟨i1, i2, i3⟩, ⟨j1, j2, j3⟩⟩, rfl, ho2, hbx, hk2, hbt⟩, rfl⟩ := hcut
        have hob := Blk.below HOB2.out hbx
        simp only [tvcell, pv] at hob
        have f0 : wc.cell? ⟨o2, 0, none⟩ = some (.string ⟨t2'.nm.a.toArray⟩) := hk2.cell 0
        have f1 : wc.cell? ⟨o2, 1, none⟩ = some (.string ⟨t2'.nm.b.toArray⟩) := hk2.cell 1
        have f2 : wc.cell? ⟨o2, 2, none⟩ = some (.string ⟨t2'.nm.c.toArray⟩) := hk2.cell 2
        have f3 : wc.cell? ⟨o2, 3, none⟩ = some (.string ⟨t2'.nm.d.toArray⟩) := hk2.cell 3
        have f4 : wc.cell? ⟨o2, 4, none⟩ = some (.slice h1 h2 h3) := hk2.cell 4
        have f5 : wc.cell? ⟨o2, 5, none⟩ = some (.slice i1 i2 i3) := hk2.cell 5
        have f6 : wc.cell? ⟨o2, 6, none⟩ = some (.slice j1 j2 j3) := hk2.cell 6
        have f7 : wc.cell? ⟨o2, 7, none⟩ = some (.int .i64 t2'.line) := hk2.cell 7
        have f8 : wc.cell? ⟨o2, 8, none⟩ = some (.bool t2'.has) := hk2.cell 8
        have z0 : wc.cell? ⟨o, 0, none⟩ = some (.string ⟨t.nm.a.toArray⟩) := hob.cell 0
        have z1 : wc.cell? ⟨o, 1, none⟩ = some (.string ⟨t.nm.b.toArray⟩) := hob.cell 1
        have z2 : wc.cell? ⟨o, 2, none⟩ = some (.string ⟨t.nm.c.toArray⟩) := hob.cell 2
        have z3 : wc.cell? ⟨o, 3, none⟩ = some (.string ⟨t.nm.d.toArray⟩) := hob.cell 3
        have z4 : wc.cell? ⟨o, 4, none⟩ = some (.slice a1 a2 a3) := hob.cell 4
        have z5 : wc.cell? ⟨o, 5, none⟩ = some (.slice b1 b2 b3) := hob.cell 5
        have z6 : wc.cell? ⟨o, 6, none⟩ = some (.slice e1 e2 e3) := hob.cell 6
        have z7 : wc.cell? ⟨o, 7, none⟩ = some (.int .i64 t.line) := hob.cell 7
        have z8 : wc.cell? ⟨o, 8, none⟩ = some (.bool t.has) := hob.cell 8
        have v0 : wc.frozen? ⟨o, 0, none⟩ = false := hob.frozen (by simp)
        have v1 : wc.frozen? ⟨o, 1, none⟩ = false := hob.frozen (by simp)
        have v2 : wc.frozen? ⟨o, 2, none⟩ = false := hob.frozen (by simp)
        have v3 : wc.frozen? ⟨o, 3, none⟩ = false := hob.frozen (by simp)
        have v4 : wc.frozen? ⟨o, 4, none⟩ = false := hob.frozen (by simp)
        have v5 : wc.frozen? ⟨o, 5, none⟩ = false := hob.frozen (by simp)
        have v6 : wc.frozen? ⟨o, 6, none⟩ = false := hob.frozen (by simp)
        have v7 : wc.frozen? ⟨o, 7, none⟩ = false := hob.frozen (by simp)
        have v8 : wc.frozen? ⟨o, 8, none⟩ = false := hob.frozen (by simp)
        obtain ⟨wv, hwv⟩ : ∃ W, W = set9 wc o t2' ⟨(h1, h2, h3), (i1, i2, i3), (j1, j2, j3)⟩ := ⟨_, rfl⟩
        have hvs : wv.heap.size = wc.heap.size := by rw [hwv, set9_size]
        have hcs := hbx.size
        have hvk : ∀ k, k ≠ o → wv.heap[k]? = wc.heap[k]? := fun k q => by rw [hwv]; exact set9_heap wc o _ _ q
        have hBWv : Below w.heap.size w wv := by rw [hwv]; exact set9_below (HBW2.out.trans (hbx.mono HBW2.out.size)) HWO.out _ _
        have hltB : ∀ k, X' k ∨ R' k → k < wq.heap.size := I.lt HBI2.out
        have hBIv := I.keep HBI2.out (fun k q => (hvk k (HXO2.out k (.inl q))).trans (hbx.block k (hltB k (.inl q)))) (fun k q => (hvk k (HXO2.out k (.inr q))).trans (hbx.block k (hltB k (.inr q)))) (by omega)
        have hOBv : Blk wv o 32 (tvcell t2' ⟨(h1, h2, h3), (i1, i2, i3), (j1, j2, j3)⟩) := by rw [hwv]; exact set9_blk hob _ _
        have hOTv : BtIs (fun k => k < wv.heap.size ∧ ¬ X' k ∧ k ≠ o) wv ⟨(h1, h2, h3), (i1, i2, i3), (j1, j2, j3)⟩ t2' := by
          have hS := HS3.out
          refine (hbt.keep (fun k q => hvk k ?_)).mono (fun k q => ?_)
          · rcases q with q | q
            · rw [hS] at q; exact q.2.2
            · omega
          · rcases q with q | q
            · rw [hS] at q; exact ⟨by omega, q.2⟩
            · exact ⟨by omega, fun z => by have := hltB k (.inl z); omega, by omega⟩
        obtain ⟨z1', z3', hzz⟩ := hOTv.opn.len
        simp only [pv] at hzz
        have hn2 : i2 = t2'.opn.length := by injection hzz
        unfold set9 at hwv
        simp only [pv] at hwv
        have HBI := Lib.hid hBIv
        have HBW := Lib.hid hBWv
        have HOB := Lib.hid hOBv
        have HOT := Lib.hid hOTv
        have HN2 := Lib.hid hn2
        have HWV := Lib.hid hwv
        clear hob hk2 hbt hbx hvs hcs hvk hBWv hltB hBIv hOBv hOTv hzz hn2 hwv ho2 HBI2 HBW2 HOB2 HS3 HS3L HSP d0 d1 d2 d3 d4 d5 d6 d7 d8 d9 d10 d11 d12 d13 d14 y0 y1 y2 y3 y4 y5 y6 y7 y8 hgq hgn
        go_upto_region 11 with fail
        rw [← HWV.out]
        clear HWV f0 z0 v0 f1 z1 v1 f2 z2 v2 f3 z3 v3 f4 z4 v4 f5 z5 v5 f6 z6 v6 f7 z7 v7 f8 z8 v8 hoq hon
        have HSC : Hid (∀ W, Below wv.heap.size wv W → W.cell? ⟨o, 0, none⟩ = some (.string ⟨t2'.nm.a.toArray⟩) ∧ W.cell? ⟨o, 1, none⟩ = some (.string ⟨t2'.nm.b.toArray⟩) ∧ W.cell? ⟨o, 2, none⟩ = some (.string ⟨t2'.nm.c.toArray⟩) ∧ W.cell? ⟨o, 3, none⟩ = some (.string ⟨t2'.nm.d.toArray⟩) ∧ W.cell? ⟨o, 4, none⟩ = some (.slice h1 h2 h3) ∧ W.cell? ⟨o, 5, none⟩ = some (.slice i1 i2 i3) ∧ W.cell? ⟨o, 6, none⟩ = some (.slice j1 j2 j3) ∧ W.cell? ⟨o, 7, none⟩ = some (.int .i64 t2'.line) ∧ W.cell? ⟨o, 8, none⟩ = some (.bool t2'.has)) := Lib.hid (fun W hb => ⟨(HOB.out.below hb).cell 0, (HOB.out.below hb).cell 1, (HOB.out.below hb).cell 2, (HOB.out.below hb).cell 3, (HOB.out.below hb).cell 4, (HOB.out.below hb).cell 5, (HOB.out.below hb).cell 6, (HOB.out.below hb).cell 7, (HOB.out.below hb).cell 8⟩)
        have hbl : btl t2' ≤ 1000 := by
          have h1 := HST.out
          have h2 := ddls_take l (p + 1)
          omega
        obtain ⟨nm, hnm⟩ : ∃ m, t2'.nm = m := ⟨_, rfl⟩
        obtain ⟨D, hD⟩ : ∃ D, bDoc t2' = D := ⟨_, rfl⟩
        obtain ⟨r, hr⟩ : ∃ r, bIn t2' kd = r := ⟨_, rfl⟩
        have hsz : nlL D ≤ 100000000 := by
          have h1 := tidy_size (bAll (bEnd t2'))
          have h2 := btl_all (bEnd t2')
          have h3 := btl_end t2'
          have h5 : bDoc t2' = tidyL (bAll (bEnd t2')) := rfl
          rw [← h5, hD] at h1
          omega
        have KB : ∀ W, Below wv.heap.size wv W → BI X' R' W b t2' := fun W hb => I.keep HBI.out (Kp.below hb (fun k z => I.lt HBI.out k (.inl z))) (Kp.below hb (fun k z => I.lt HBI.out k (.inr z))) hb.size
        have KT : ∀ W, Below wv.heap.size wv W → TB W := fun W hb => I.tb HTB.out (HBW.out.trans (hb.mono HBW.out.size))
        have BT : ∀ {W W' : World}, Below wv.heap.size wv W → Below W.heap.size W W' → Below wv.heap.size wv W' := fun h k => h.trans (k.mono h.size)
        have KO : ∀ W, Below wv.heap.size wv W → BtIs (fun k => k < wv.heap.size ∧ ¬ X' k ∧ k ≠ o) W ⟨(h1, h2, h3), (i1, i2, i3), (j1, j2, j3)⟩ t2' := fun W hb => HOT.out.keep (Kp.below hb (fun k q => q.1))
        have HP1 : Hid (∀ W, Below wv.heap.size wv W → Calls Tryd.prog 13 #[ptrV b] W fun e w' => e = .returned (.int .i64 (i2 : Int)) ∧ Below wv.heap.size wv w') := Lib.hid (fun W hb => (I.depth (KB W hb) (KT W hb)).mono fun e w' ⟨e1, e2⟩ => ⟨by rw [e1, HN2.out], BT hb e2⟩)
        have HP2 : Hid (∀ W, Below wv.heap.size wv W → Calls Tryd.prog 14 #[ptrV b, .int .i64 kd] W fun e w' => e = .returned (.bool r) ∧ Below wv.heap.size wv w') := Lib.hid (fun W hb => (I.inside kd (KB W hb) (KT W hb) (by omega)).mono fun e w' ⟨e1, e2⟩ => ⟨by rw [e1, hr], BT hb e2⟩)
        have HP3 : Hid (∀ W, Below wv.heap.size wv W → Calls Tryd.prog 15 #[.agg #[.string ⟨t2'.nm.a.toArray⟩, .string ⟨t2'.nm.b.toArray⟩, .string ⟨t2'.nm.c.toArray⟩, .string ⟨t2'.nm.d.toArray⟩, .slice h1 h2 h3, .slice i1 i2 i3, .slice j1 j2 j3, .int .i64 t2'.line, .bool t2'.has], .int .i64 kd] W fun e w' => e = .returned (.bool r) ∧ Below wv.heap.size wv w') := Lib.hid (fun W hb => (rinside_any _ ⟨(h1, h2, h3), (i1, i2, i3), (j1, j2, j3)⟩ t2' kd W (fun k q => Nat.lt_of_lt_of_le q.1 hb.size) (KO W hb) (by omega)).mono fun e w' ⟨e1, e2⟩ => ⟨by rw [e1, hr], BT hb e2⟩)
        have HP4 : Hid (∀ W, Below wv.heap.size wv W → Calls Tryd.prog 17 #[ptrV b] W fun e w' => ∃ v1 v2 v3, e = .returned (.agg #[.string ⟨nm.a.toArray⟩, .string ⟨nm.b.toArray⟩, .string ⟨nm.c.toArray⟩, .string ⟨nm.d.toArray⟩, .slice v1 v2 v3]) ∧ Below wv.heap.size wv w' ∧ NsS (fun k => k < w'.heap.size) w' (.slice v1 v2 v3) D) := Lib.hid (fun W hb => by
          have h1 := I.doc (KB W hb) (KT W hb) (by omega)
          rw [hnm, hD] at h1
          exact h1.mono (fun e w' ⟨⟨v1, v2, v3⟩, e1, e2, e3⟩ => ⟨v1, v2, v3, e1, BT hb e3, e2.mono (fun k z => z.2)⟩))
        have HP5 : Hid (∀ W, Below wv.heap.size wv W → Calls Tryd.prog 18 #[.agg #[.string ⟨t2'.nm.a.toArray⟩, .string ⟨t2'.nm.b.toArray⟩, .string ⟨t2'.nm.c.toArray⟩, .string ⟨t2'.nm.d.toArray⟩, .slice h1 h2 h3, .slice i1 i2 i3, .slice j1 j2 j3, .int .i64 t2'.line, .bool t2'.has]] W fun e w' => ∃ v1 v2 v3, e = .returned (.agg #[.string ⟨nm.a.toArray⟩, .string ⟨nm.b.toArray⟩, .string ⟨nm.c.toArray⟩, .string ⟨nm.d.toArray⟩, .slice v1 v2 v3]) ∧ Below W.heap.size W w' ∧ NsS (fun k => k < w'.heap.size) w' (.slice v1 v2 v3) D) := Lib.hid (fun W hb => by
          have h1 := rdoc8_any _ ⟨(h1, h2, h3), (i1, i2, i3), (j1, j2, j3)⟩ t2' W (fun k q => Nat.lt_of_lt_of_le q.1 hb.size) (KO W hb) (by omega)
          rw [hnm, hD] at h1
          exact h1.mono (fun e w' ⟨⟨v1, v2, v3⟩, e1, e2, e3⟩ => ⟨v1, v2, v3, e1, e3, e2.mono (fun k z => by
            rcases z with z | z
            · have := hb.size; have := e3.size; (try simp only at z); omega
            · exact z.2)⟩))
        have HP6 : Hid (∀ W v1 v2 v3 u1 u2 u3, Below wv.heap.size wv W → NsS (fun k => k < W.heap.size) W (.slice v1 v2 v3) D → NsS (fun k => k < W.heap.size) W (.slice u1 u2 u3) D → Calls Tryd.prog 16 #[.agg #[.string ⟨nm.a.toArray⟩, .string ⟨nm.b.toArray⟩, .string ⟨nm.c.toArray⟩, .string ⟨nm.d.toArray⟩, .slice v1 v2 v3], .agg #[.string ⟨nm.a.toArray⟩, .string ⟨nm.b.toArray⟩, .string ⟨nm.c.toArray⟩, .string ⟨nm.d.toArray⟩, .slice u1 u2 u3]] W fun e w' => e = .returned (.bool true) ∧ Below wv.heap.size wv w') := Lib.hid (fun W v1 v2 v3 u1 u2 u3 hb hv hu => (rsamedoc_any _ _ nm D D (.slice v1 v2 v3) (.slice u1 u2 u3) W (by omega) (by omega) hv hu (fun b q => q) (fun b q => q)).mono (fun e w' ⟨e1, e2⟩ => ⟨by rw [e1, eqNs_true rfl], BT hb e2⟩))
        have HXX : Hid (Below wv.heap.size wv wv.drew) := Lib.hid (Below.refl _ wv).drew
        have HBT2 : Hid (∀ W W', Below wv.heap.size wv W → Below W.heap.size W W' → Below wv.heap.size wv W') := Lib.hid (fun W W' h k => h.trans (k.mono h.size))
        clear hbl hnm hD hr hsz KB KT BT KO
        refine wp_region_held_drew (S := (fun W' => W'.cell? ⟨o, 0, none⟩ = some (.string ⟨t2'.nm.a.toArray⟩) ∧ W'.cell? ⟨o, 1, none⟩ = some (.string ⟨t2'.nm.b.toArray⟩) ∧ W'.cell? ⟨o, 2, none⟩ = some (.string ⟨t2'.nm.c.toArray⟩) ∧ W'.cell? ⟨o, 3, none⟩ = some (.string ⟨t2'.nm.d.toArray⟩) ∧ W'.cell? ⟨o, 4, none⟩ = some (.slice h1 h2 h3) ∧ W'.cell? ⟨o, 5, none⟩ = some (.slice i1 i2 i3) ∧ W'.cell? ⟨o, 6, none⟩ = some (.slice j1 j2 j3) ∧ W'.cell? ⟨o, 7, none⟩ = some (.int .i64 t2'.line) ∧ W'.cell? ⟨o, 8, none⟩ = some (.bool t2'.has))) (by kernel_rfl) ?_ (fun hHeld => ?_)
        · exact HSC.out _ HXX.out
        refine wpAnyH_take (i := 0) (v := .bool is) rfl (by kernel_rfl) (by kernel_rfl) (by kernel_rfl) (fun _ _ _ h => h) (Or.inl ⟨by rfl, fun w' hSw => by (try dsimp only at hSw); go_simp⟩) (by assumption) ?_
        simp only [List.getElem_toArray, List.getElem_cons_succ, List.getElem_cons_zero, Act.put, List.setIfInBounds_toArray, List.set_cons_zero, List.set_cons_succ]
        refine wpAnyH_take (i := 1) (v := .bool is) rfl (by kernel_rfl) (by kernel_rfl) (by kernel_rfl) (fun _ _ _ h => h) (Or.inl ⟨by rfl, fun w' hSw => by (try dsimp only at hSw); go_simp⟩) (by assumption) ?_
        simp only [List.getElem_toArray, List.getElem_cons_succ, List.getElem_cons_zero, Act.put, List.setIfInBounds_toArray, List.set_cons_zero, List.set_cons_succ]
        refine wpAnyH_take (i := 2) (v := .bool false) rfl (by kernel_rfl) (by kernel_rfl) (by kernel_rfl) (fun _ _ _ h => h) (Or.inl ⟨by rfl, fun w' hSw => by (try dsimp only at hSw); go_simp⟩) (by assumption) ?_
        simp only [List.getElem_toArray, List.getElem_cons_succ, List.getElem_cons_zero, Act.put, List.setIfInBounds_toArray, List.set_cons_zero, List.set_cons_succ]
        refine wpAnyH_take (i := 3) (v := .bool false) rfl (by kernel_rfl) (by kernel_rfl) (by kernel_rfl) (fun _ _ _ h => h) (Or.inl ⟨by rfl, fun w' hSw => by (try dsimp only at hSw); go_simp⟩) (by assumption) ?_
        simp only [List.getElem_toArray, List.getElem_cons_succ, List.getElem_cons_zero, Act.put, List.setIfInBounds_toArray, List.set_cons_zero, List.set_cons_succ]
        refine wpAnyH_take (i := 4) (v := .pointer (some ⟨b, 0, none⟩)) rfl (by kernel_rfl) (by kernel_rfl) (by kernel_rfl) (fun _ _ _ h => h) (Or.inl ⟨by rfl, fun w' hSw => by (try dsimp only at hSw); go_simp⟩) (by assumption) ?_
        simp only [List.getElem_toArray, List.getElem_cons_succ, List.getElem_cons_zero, Act.put, List.setIfInBounds_toArray, List.set_cons_zero, List.set_cons_succ]
        refine wpAnyH_take (i := 6) (v := .pointer (some ⟨o, 5, none⟩)) rfl (by kernel_rfl) (by kernel_rfl) (by kernel_rfl) (fun _ _ _ h => h) (Or.inl ⟨by rfl, fun w' hSw => by (try dsimp only at hSw); go_simp⟩) (by assumption) ?_
        simp only [List.getElem_toArray, List.getElem_cons_succ, List.getElem_cons_zero, Act.put, List.setIfInBounds_toArray, List.set_cons_zero, List.set_cons_succ]
        refine wpAnyH_take (i := 7) (v := .slice i1 i2 i3) rfl (by kernel_rfl) (by kernel_rfl) (by kernel_rfl) (fun _ _ _ h => h) (Or.inl ⟨by rfl, fun w' hSw => by (try dsimp only at hSw); go_simp⟩) (by assumption) ?_
        simp only [List.getElem_toArray, List.getElem_cons_succ, List.getElem_cons_zero, Act.put, List.setIfInBounds_toArray, List.set_cons_zero, List.set_cons_succ]
        refine wpAnyH_take (i := 8) (v := .int .i64 (i2 : Int)) rfl (by kernel_rfl) (by kernel_rfl) (by kernel_rfl) (fun _ _ _ h => h) (Or.inl ⟨by rfl, fun w' hSw => by (try dsimp only at hSw); go_simp⟩) (by assumption) ?_
        simp only [List.getElem_toArray, List.getElem_cons_succ, List.getElem_cons_zero, Act.put, List.setIfInBounds_toArray, List.set_cons_zero, List.set_cons_succ]
        refine wpAnyH_ready (rs := [5]) (by kernel_rfl) (by simp) ?_
        refine AllReadyH.cons rfl (fun K hK => ?_) AllReadyH.nil
        try simp only [List.getElem_toArray, List.getElem_cons_succ, List.getElem_cons_zero]
        go_simp
        go_at_call 13
        refine (HP1.out _ HXX.out).mono ?_
        rintro e w7 ⟨rfl, b7⟩
        clear HXX
        have HXX := Lib.hid b7
        clear b7
        go_wp2_with fail
        refine hK.out _ _ ?_ (fun hHeld => ?_)
        · exact HSC.out _ HXX.out
        clear hK K
        try simp only [List.getElem_toArray, List.getElem_cons_succ, List.getElem_cons_zero, Act.put, List.setIfInBounds_toArray, List.set_cons_zero, List.set_cons_succ]
        refine wpAnyH_take (i := 9) (v := .bool false) rfl (by kernel_rfl) (by kernel_rfl) (by kernel_rfl) (fun _ _ _ h => h) (Or.inl ⟨by rfl, fun w' hSw => by (try dsimp only at hSw); go_simp⟩) (by assumption) ?_
        simp only [List.getElem_toArray, List.getElem_cons_succ, List.getElem_cons_zero, Act.put, List.setIfInBounds_toArray, List.set_cons_zero, List.set_cons_succ]
        refine wpAnyH_take (i := 10) (v := .bool false) rfl (by kernel_rfl) (by kernel_rfl) (by kernel_rfl) (fun _ _ _ h => h) (Or.inl ⟨by rfl, fun w' hSw => by (try dsimp only at hSw); go_simp⟩) (by assumption) ?_
        simp only [List.getElem_toArray, List.getElem_cons_succ, List.getElem_cons_zero, Act.put, List.setIfInBounds_toArray, List.set_cons_zero, List.set_cons_succ]
        refine wpAnyH_take (i := 11) (v := .bool false) rfl (by kernel_rfl) (by kernel_rfl) (by kernel_rfl) (fun _ _ _ h => h) (Or.inl ⟨by rfl, fun w' hSw => by (try dsimp only at hSw); go_simp⟩) (by assumption) ?_
        simp only [List.getElem_toArray, List.getElem_cons_succ, List.getElem_cons_zero, Act.put, List.setIfInBounds_toArray, List.set_cons_zero, List.set_cons_succ]
        refine wpAnyH_take (i := 12) (v := .pointer (some ⟨b, 0, none⟩)) rfl (by kernel_rfl) (by kernel_rfl) (by kernel_rfl) (fun _ _ _ h => h) (Or.inl ⟨by rfl, fun w' hSw => by (try dsimp only at hSw); go_simp⟩) (by assumption) ?_
        simp only [List.getElem_toArray, List.getElem_cons_succ, List.getElem_cons_zero, Act.put, List.setIfInBounds_toArray, List.set_cons_zero, List.set_cons_succ]
        refine wpAnyH_take (i := 13) (v := .int .i64 kd) rfl (by kernel_rfl) (by kernel_rfl) (by kernel_rfl) (fun _ _ _ h => h) (Or.inl ⟨by rfl, fun w' hSw => by (try dsimp only at hSw); go_simp⟩) (by assumption) ?_
        simp only [List.getElem_toArray, List.getElem_cons_succ, List.getElem_cons_zero, Act.put, List.setIfInBounds_toArray, List.set_cons_zero, List.set_cons_succ]
        refine wpAnyH_take (i := 15) (v := .agg #[.string ⟨t2'.nm.a.toArray⟩, .string ⟨t2'.nm.b.toArray⟩, .string ⟨t2'.nm.c.toArray⟩, .string ⟨t2'.nm.d.toArray⟩, .slice h1 h2 h3, .slice i1 i2 i3, .slice j1 j2 j3, .int .i64 t2'.line, .bool t2'.has]) rfl (by kernel_rfl) (by kernel_rfl) (by kernel_rfl) (fun _ _ _ h => h) (Or.inl ⟨by rfl, fun w' hSw => by (try dsimp only at hSw); go_simp⟩) (by assumption) ?_
        simp only [List.getElem_toArray, List.getElem_cons_succ, List.getElem_cons_zero, Act.put, List.setIfInBounds_toArray, List.set_cons_zero, List.set_cons_succ]
        refine wpAnyH_take (i := 16) (v := .int .i64 kd) rfl (by kernel_rfl) (by kernel_rfl) (by kernel_rfl) (fun _ _ _ h => h) (Or.inl ⟨by rfl, fun w' hSw => by (try dsimp only at hSw); go_simp⟩) (by assumption) ?_
        simp only [List.getElem_toArray, List.getElem_cons_succ, List.getElem_cons_zero, Act.put, List.setIfInBounds_toArray, List.set_cons_zero, List.set_cons_succ]
        refine wpAnyH_ready (rs := [14]) (by kernel_rfl) (by simp) ?_
        refine AllReadyH.cons rfl (fun K hK => ?_) AllReadyH.nil
        try simp only [List.getElem_toArray, List.getElem_cons_succ, List.getElem_cons_zero]
        go_simp
        go_at_call 14
        refine (HP2.out _ HXX.out).mono ?_
        rintro e w7 ⟨rfl, b7⟩
        clear HXX
        have HXX := Lib.hid b7
        clear b7
        go_wp2_with fail
        refine hK.out _ _ ?_ (fun hHeld => ?_)
        · exact HSC.out _ HXX.out
        clear hK K
        try simp only [List.getElem_toArray, List.getElem_cons_succ, List.getElem_cons_zero, Act.put, List.setIfInBounds_toArray, List.set_cons_zero, List.set_cons_succ]
        refine wpAnyH_ready (rs := [17]) (by kernel_rfl) (by simp) ?_
        refine AllReadyH.cons rfl (fun K hK => ?_) AllReadyH.nil
        try simp only [List.getElem_toArray, List.getElem_cons_succ, List.getElem_cons_zero]
        go_simp
        go_at_call 15
        refine (HP3.out _ HXX.out).mono ?_
        rintro e w7 ⟨rfl, b7⟩
        clear HXX
        have HXX := Lib.hid b7
        clear b7
        go_wp2_with fail
        refine hK.out _ _ ?_ (fun hHeld => ?_)
        · exact HSC.out _ HXX.out
        clear hK K
        try simp only [List.getElem_toArray, List.getElem_cons_succ, List.getElem_cons_zero, Act.put, List.setIfInBounds_toArray, List.set_cons_zero, List.set_cons_succ]
        refine wpAnyH_take (i := 18) (v := .bool false) rfl (by kernel_rfl) (by kernel_rfl) (by kernel_rfl) (fun _ _ _ h => h) (Or.inl ⟨by rfl, fun w' hSw => by (try dsimp only at hSw); go_simp⟩) (by assumption) ?_
        simp only [List.getElem_toArray, List.getElem_cons_succ, List.getElem_cons_zero, Act.put, List.setIfInBounds_toArray, List.set_cons_zero, List.set_cons_succ]
        refine wpAnyH_take (i := 19) (v := .bool false) rfl (by kernel_rfl) (by kernel_rfl) (by kernel_rfl) (fun _ _ _ h => h) (Or.inl ⟨by rfl, fun w' hSw => by (try dsimp only at hSw); go_simp⟩) (by assumption) ?_
        simp only [List.getElem_toArray, List.getElem_cons_succ, List.getElem_cons_zero, Act.put, List.setIfInBounds_toArray, List.set_cons_zero, List.set_cons_succ]
        refine wpAnyH_take (i := 20) (v := .bool false) rfl (by kernel_rfl) (by kernel_rfl) (by kernel_rfl) (fun _ _ _ h => h) (Or.inl ⟨by rfl, fun w' hSw => by (try dsimp only at hSw); go_simp⟩) (by assumption) ?_
        simp only [List.getElem_toArray, List.getElem_cons_succ, List.getElem_cons_zero, Act.put, List.setIfInBounds_toArray, List.set_cons_zero, List.set_cons_succ]
        refine wpAnyH_take (i := 21) (v := .pointer (some ⟨b, 0, none⟩)) rfl (by kernel_rfl) (by kernel_rfl) (by kernel_rfl) (fun _ _ _ h => h) (Or.inl ⟨by rfl, fun w' hSw => by (try dsimp only at hSw); go_simp⟩) (by assumption) ?_
        simp only [List.getElem_toArray, List.getElem_cons_succ, List.getElem_cons_zero, Act.put, List.setIfInBounds_toArray, List.set_cons_zero, List.set_cons_succ]
        refine wpAnyH_take (i := 23) (v := .agg #[.string ⟨t2'.nm.a.toArray⟩, .string ⟨t2'.nm.b.toArray⟩, .string ⟨t2'.nm.c.toArray⟩, .string ⟨t2'.nm.d.toArray⟩, .slice h1 h2 h3, .slice i1 i2 i3, .slice j1 j2 j3, .int .i64 t2'.line, .bool t2'.has]) rfl (by kernel_rfl) (by kernel_rfl) (by kernel_rfl) (fun _ _ _ h => h) (Or.inl ⟨by rfl, fun w' hSw => by (try dsimp only at hSw); go_simp⟩) (by assumption) ?_
        simp only [List.getElem_toArray, List.getElem_cons_succ, List.getElem_cons_zero, Act.put, List.setIfInBounds_toArray, List.set_cons_zero, List.set_cons_succ]
        refine wpAnyH_ready (rs := [22]) (by kernel_rfl) (by simp) ?_
        refine AllReadyH.cons rfl (fun K hK => ?_) AllReadyH.nil
        try simp only [List.getElem_toArray, List.getElem_cons_succ, List.getElem_cons_zero]
        go_simp
        go_at_call 17
        refine (HP4.out _ HXX.out).mono ?_
        rintro e w7 ⟨v1, v2, v3, rfl, b7, hq⟩
        clear HXX
        have HXX := Lib.hid b7
        have HQ := Lib.hid hq
        clear b7 hq
        go_wp2_with fail
        refine hK.out _ _ ?_ (fun hHeld => ?_)
        · exact HSC.out _ HXX.out
        clear hK K
        try simp only [List.getElem_toArray, List.getElem_cons_succ, List.getElem_cons_zero, Act.put, List.setIfInBounds_toArray, List.set_cons_zero, List.set_cons_succ]
        refine wpAnyH_ready (rs := [24]) (by kernel_rfl) (by simp) ?_
        refine AllReadyH.cons rfl (fun K hK => ?_) AllReadyH.nil
        try simp only [List.getElem_toArray, List.getElem_cons_succ, List.getElem_cons_zero]
        go_simp
        go_at_call 18
        refine (HP5.out _ HXX.out).mono ?_
        rintro e w8 ⟨u1, u2, u3, rfl, b8, hq⟩
        have HQ2 := Lib.hid hq
        have HQ1 := Lib.hid ((HQ.out.keep (Kp.below b8 (fun k q => q))).mono (T := fun k => k < w8.heap.size) (fun k q => Nat.lt_of_lt_of_le q b8.size))
        have HXY := Lib.hid (HBT2.out _ _ HXX.out b8)
        clear HXX HQ b8 hq
        have HXX := Lib.hid HXY.out
        clear HXY
        go_wp2_with fail
        refine hK.out _ _ ?_ (fun hHeld => ?_)
        · exact HSC.out _ HXX.out
        clear hK K
        try simp only [List.getElem_toArray, List.getElem_cons_succ, List.getElem_cons_zero, Act.put, List.setIfInBounds_toArray, List.set_cons_zero, List.set_cons_succ]
        refine wpAnyH_ready (rs := [25]) (by kernel_rfl) (by simp) ?_
        refine AllReadyH.cons rfl (fun K hK => ?_) AllReadyH.nil
        try simp only [List.getElem_toArray, List.getElem_cons_succ, List.getElem_cons_zero]
        go_simp
        go_at_call 16
        refine (HP6.out _ _ _ _ _ _ _ HXX.out HQ1.out HQ2.out).mono ?_
        rintro e w9 ⟨rfl, b9⟩
        clear HXX HQ1 HQ2
        have HXX := Lib.hid b9
        clear b9
        go_wp2_with fail
        refine hK.out _ _ ?_ (fun hHeld => ?_)
        · exact HSC.out _ HXX.out
        clear hK K
        try simp only [List.getElem_toArray, List.getElem_cons_succ, List.getElem_cons_zero, Act.put, List.setIfInBounds_toArray, List.set_cons_zero, List.set_cons_succ]
        refine wpAnyH_take (i := 26) (v := .bool false) rfl (by kernel_rfl) (by kernel_rfl) (by kernel_rfl) (fun _ _ _ h => h) (Or.inl ⟨by rfl, fun w' hSw => by (try dsimp only at hSw); go_simp⟩) (by assumption) ?_
        simp only [List.getElem_toArray, List.getElem_cons_succ, List.getElem_cons_zero, Act.put, List.setIfInBounds_toArray, List.set_cons_zero, List.set_cons_succ]
        refine wpAnyH_take (i := 27) (v := .bool false) rfl (by kernel_rfl) (by kernel_rfl) (by kernel_rfl) (fun _ _ _ h => h) (Or.inl ⟨by rfl, fun w' hSw => by (try dsimp only at hSw); go_simp⟩) (by assumption) ?_
        simp only [List.getElem_toArray, List.getElem_cons_succ, List.getElem_cons_zero, Act.put, List.setIfInBounds_toArray, List.set_cons_zero, List.set_cons_succ]
        refine wpAnyH_done (by kernel_rfl) ?_ _
        clear HP1 HP2 HP3 HP4 HP5 HP6 HSC
        go_wp2_with fail
        go_roundw
        case rel => exact ⟨p + 1, t2', X', R', ⟨(h1, h2, h3), (i1, i2, i3), (j1, j2, j3)⟩, by omega, by go_num, Lib.hid (I.keep HBI.out (Kp.below HXX.out (fun k z => I.lt HBI.out k (.inl z))) (Kp.below HXX.out (fun k z => I.lt HBI.out k (.inr z))) HXX.out.size), Lib.hid (HBW.out.trans (HXX.out.mono HBW.out.size)), HX2, HXO2, Lib.hid (HOB.out.below HXX.out), Lib.hid ((HOT.out.keep (Kp.below HXX.out (fun k q => q.1))).mono (fun k q => ⟨Nat.lt_of_lt_of_le q.1 HXX.out.size, q.2⟩)), HST⟩
        case measure => (simp [intOf]; try omega)
      · skip
        have hlt' : ¬ (p : Int) < (ln : Int) := by omega
        go_wp2_with fail
        refine (HK.out _ HBW.out).mono ?_
        rintro e wb ⟨rfl, bb⟩
        have HB9 := Lib.hid bb
        clear bb
        go_wp2_with fail
        go_ret
        exact ⟨rfl, HB9.out⟩
end Go.Proofs.YtpccjgoeoeehoaaDoor
