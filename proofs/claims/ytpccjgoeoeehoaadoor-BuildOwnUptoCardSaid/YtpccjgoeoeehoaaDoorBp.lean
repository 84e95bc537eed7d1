/- The laws' known, over whatever a builder keeps. -/
import Derived.Test.YtpccjgoeoeehoaaDoorBk
import Derived.Test.YtpccjgoeoeehoaaDoorBs
import Derived.Deep.RegionHeld3
set_option linter.unusedVariables false
set_option linter.unusedSimpArgs false
namespace Go.Proofs.YtpccjgoeoeehoaaDoor
open Go.RowKit
theorem ns_lit8 {S : Nat → Prop} (w : World) (L : List NV) (l : List Nd) (hl : L.length = l.length) (hS : ∀ b, S b → b < w.heap.size) (hh : ∀ (i : Nat) x y, L[i]? = some x → l[i]? = some y → HdIs S w x y.hd ∧ NsS S w (pv x.kids) y.kids) :
    NsS (fun b => S b ∨ b = w.heap.size) (w.alloc (.cells (flatV ncell L).toArray 40)) (.slice (some ⟨w.heap.size, 0, none⟩) L.length L.length) l := by
  have hk : Kp S w (w.alloc (.cells (flatV ncell L).toArray 40)) := Kp.below (below_lit w _) hS
  refine .mk _ _ L hl ⟨fs_lit ncell_len w _ L, fun a k c e _ => ?_⟩ (fun i x y a b => ((hh i x y a b).1.keep hk).mono (fun b q => .inl q)) (fun i x y a b => ((hh i x y a b).2.keep hk).mono (fun b q => .inl q))
  injection e with e1
  injection e1 with e1
  subst e1
  exact ⟨.inr rfl, fun _ i _ => by
    have h := heap_alloc_new w (.cells (flatV ncell L).toArray 40)
    simp only [World.frozen?, h]
    simp⟩
theorem one_at8 {α β : Type} {x x' : α} {y y' : β} {i : Nat} (h : [x][i]? = some x') (k : [y][i]? = some y') : x = x' ∧ y = y' := by
  match i with
  | 0 => simp at h k; exact ⟨h, k⟩
  | i + 1 => simp at h
def gl8 (r : Int) : List Gly := [(r, 0)]
theorem gly8 (W : World) (r : Int) : FsS (fun k => k = W.heap.size) 2 gcell (W.alloc (.cells #[.int .i32 r, .int .u8 0] 56)) (.slice (some ⟨W.heap.size, 0, none⟩) 1 1) (gl8 r) := by
  refine ⟨fs_lit gcell_len W 56 (gl8 r), fun a k c e _ => ?_⟩
  injection e with e1
  injection e1 with e1
  subst e1
  exact ⟨rfl, fun _ i _ => by
    have h := heap_alloc_new W (.cells #[.int .i32 r, .int .u8 0] 56)
    simp only [World.frozen?, h]
    simp⟩
def ab8 : List Gly := [(97, 0), (32, 0), (98, 0)]
theorem glys8 (W : World) : FsS (fun k => k = W.heap.size) 2 gcell (W.alloc (.cells #[.int .i32 97, .int .u8 0, .int .i32 32, .int .u8 0, .int .i32 98, .int .u8 0] 56)) (.slice (some ⟨W.heap.size, 0, none⟩) 3 3) ab8 := by
  refine ⟨fs_lit gcell_len W 56 ab8, fun a k c e _ => ?_⟩
  injection e with e1
  injection e1 with e1
  subst e1
  exact ⟨rfl, fun _ i _ => by
    have h := heap_alloc_new W (.cells #[.int .i32 97, .int .u8 0, .int .i32 32, .int .u8 0, .int .i32 98, .int .u8 0] 56)
    simp only [World.frozen?, h]
    simp⟩
def hd8 (k ln : Int) (t : List Gly) : Hd := ⟨k, ln, 0, t, [], noGrid⟩
def y8 : Nd := .mk (hd8 1 0 (gl8 120)) []
def t8 : Bt := bText (bText (bOpen bt0 y8) (gl8 97) 4) (gl8 98) 5
def want8 : List Nd := [.mk (hd8 1 0 (gl8 120)) [.mk (hd8 3 4 ab8) []]]
theorem all8 : bAll (bEnd t8) = want8 := by rfl
theorem doc8 : bDoc t8 = want8 := by
  unfold bDoc
  rw [all8]
  unfold tidyL want8
  simp only [tdL_cons, tdL_nil, tdN_mk]
  rfl
theorem nm8 : t8.nm = ⟨[], [], [], []⟩ := rfl
theorem opn8 : t8.opn.length = 1 := rfl
def nv8 (k ln : Int) (t s : PV) : NV := ⟨k, ln, 0, t, s, (none, 0, 0), [], (none, 0, 0), false, false⟩
theorem hdis8 {S : Nat → Prop} {w : World} (k ln : Int) {t s : PV} {g : List Gly} (h : FsS S 2 gcell w (pv t) g) : HdIs S w (nv8 k ln t s) (hd8 k ln g) := ⟨rfl, rfl, rfl, h, GrS.nil _ _, rfl, TrS.nil _ _, rfl, rfl⟩
/-- What is wanted, as the law builds it. -/
theorem want_is (W0 W4 : World) (h : W4 = (((W0.alloc (.cells #[.int .i32 120, .int .u8 0] 56)).alloc (.cells #[.int .i32 97, .int .u8 0, .int .i32 32, .int .u8 0, .int .i32 98, .int .u8 0] 56)).alloc (.cells #[.int .i64 3, .int .i64 4, .int .i64 0, .slice (some ⟨W0.heap.size + 1, 0, none⟩) 3 3, .slice none 0 0, .slice none 0 0, .string ⟨#[]⟩, .slice none 0 0, .bool false, .bool false] 40)).alloc (.cells #[.int .i64 1, .int .i64 0, .int .i64 0, .slice (some ⟨W0.heap.size, 0, none⟩) 1 1, .slice (some ⟨W0.heap.size + 1 + 1, 0, none⟩) 1 1, .slice none 0 0, .string ⟨#[]⟩, .slice none 0 0, .bool false, .bool false] 40)) :
    NsS (fun b => b < W4.heap.size) W4 (.slice (some ⟨W0.heap.size + 1 + 1 + 1, 0, none⟩) 1 1) want8 ∧ Below W0.heap.size W0 W4 := by
  obtain ⟨W1, hW1⟩ : ∃ W, W = W0.alloc (.cells #[.int .i32 120, .int .u8 0] 56) := ⟨_, rfl⟩
  have z1 : W1.heap.size = W0.heap.size + 1 := by rw [hW1, World.size_alloc]
  have b1 : Below W0.heap.size W0 W1 := by rw [hW1]; exact below_lit _ _
  have g1 := gly8 W0 120
  rw [← hW1] at g1 h
  obtain ⟨W2, hW2⟩ : ∃ W, W = W1.alloc (.cells #[.int .i32 97, .int .u8 0, .int .i32 32, .int .u8 0, .int .i32 98, .int .u8 0] 56) := ⟨_, rfl⟩
  have z2 : W2.heap.size = W1.heap.size + 1 := by rw [hW2, World.size_alloc]
  have b2 : Below W1.heap.size W1 W2 := by rw [hW2]; exact below_lit _ _
  have g2 := glys8 W1
  rw [← hW2] at g2 h
  have g1' : FsS (fun b => b < W2.heap.size) 2 gcell W2 (.slice (some ⟨W0.heap.size, 0, none⟩) 1 1) (gl8 120) := (g1.keep (Kp.below b2 (fun b q => by omega))).mono (fun b q => by omega)
  have g2' : FsS (fun b => b < W2.heap.size) 2 gcell W2 (.slice (some ⟨W1.heap.size, 0, none⟩) 3 3) ab8 := g2.mono (fun b q => by omega)
  obtain ⟨W3, hW3⟩ : ∃ W, W = W2.alloc (.cells (flatV ncell [nv8 3 4 (some ⟨W1.heap.size, 0, none⟩, 3, 3) (none, 0, 0)]).toArray 40) := ⟨_, rfl⟩
  have z3 : W3.heap.size = W2.heap.size + 1 := by rw [hW3, World.size_alloc]
  have b3 : Below W2.heap.size W2 W3 := by rw [hW3]; exact below_lit _ _
  have hN3 : NsS (fun b => b < W3.heap.size) W3 (.slice (some ⟨W2.heap.size, 0, none⟩) 1 1) [.mk (hd8 3 4 ab8) []] := by
    have := ns_lit8 W2 [nv8 3 4 (some ⟨W1.heap.size, 0, none⟩, 3, 3) (none, 0, 0)] [.mk (hd8 3 4 ab8) []] rfl (fun b q => q) (fun i x y a b => by
      obtain ⟨rfl, rfl⟩ := one_at8 a b
      exact ⟨hdis8 3 4 g2', NsS.nil _ _⟩)
    rw [← hW3] at this
    exact this.mono (fun b q => by rcases q with q | q <;> omega)
  have g3 : FsS (fun b => b < W3.heap.size) 2 gcell W3 (.slice (some ⟨W0.heap.size, 0, none⟩) 1 1) (gl8 120) := (g1'.keep (Kp.below b3 (fun b q => q))).mono (fun b q => by omega)
  have h4 : W4 = W3.alloc (.cells (flatV ncell [nv8 1 0 (some ⟨W0.heap.size, 0, none⟩, 1, 1) (some ⟨W2.heap.size, 0, none⟩, 1, 1)]).toArray 40) := by
    rw [h, hW3, z2, z1]
    rfl
  have z4 : W4.heap.size = W3.heap.size + 1 := by rw [h4, World.size_alloc]
  have b4 : Below W3.heap.size W3 W4 := by rw [h4]; exact below_lit _ _
  have hN4 : NsS (fun b => b < W4.heap.size) W4 (.slice (some ⟨W3.heap.size, 0, none⟩) 1 1) want8 := by
    have := ns_lit8 W3 [nv8 1 0 (some ⟨W0.heap.size, 0, none⟩, 1, 1) (some ⟨W2.heap.size, 0, none⟩, 1, 1)] want8 rfl (fun b q => q) (fun i x y a b => by
      obtain ⟨rfl, rfl⟩ := one_at8 a b
      exact ⟨hdis8 1 0 g3, hN3⟩)
    rw [← h4] at this
    exact this.mono (fun b q => by rcases q with q | q <;> omega)
  rw [show W3.heap.size = W0.heap.size + 1 + 1 + 1 by omega] at hN4
  exact ⟨hN4, b1.trans ((b2.trans ((b3.trans (b4.mono (by omega))).mono (by omega))).mono (by omega))⟩
set_option maxRecDepth 100000 in
set_option maxHeartbeats 8000000 in
theorem bknown_any (BI : BIT) (TB : World → Prop) (I : Impl BI TB) (hNil : ∀ W, TB W → Calls Tryd.prog 13 #[.pointer none] W fun e w' => e = .returned (.int .i64 0) ∧ Below W.heap.size W w') (w : World) (hTB : TB w) :
    Calls Tryd.prog 9 #[] w fun e w' => e = .returned (.bool true) ∧ Below w.heap.size w w' := by
  have HTB := Lib.hid hTB
  have HNI := Lib.hid hNil
  clear hTB hNil
  have HNW := Lib.hid (I.new w)
  go_enter Tryd.func9, Tryd.ntmps9
  go_wp2_with fail
  refine HNW.out.mono ?_
  rintro e w2 ⟨b, X, rfl, h1, h2, h3⟩
  have HBI := Lib.hid h1
  have HBW := Lib.hid h2
  have HX := Lib.hid h3
  clear h1 h2 h3 HNW
  obtain ⟨we, hwe⟩ : ∃ W : World, W = w2 := ⟨_, rfl⟩
  rw [← hwe] at HBI HBW ⊢
  clear hwe
  obtain ⟨X7, hX7⟩ : ∃ Y, Y = we.alloc (.cells #[.int .i32 120, .int .u8 0] 56) := ⟨_, rfl⟩
  have b7 : Below we.heap.size we X7 := by rw [hX7]; exact below_lit _ _
  have hz7 : X7.heap.size = we.heap.size + 1 := by rw [hX7, World.size_alloc]
  have hI9 := gly8 we 120
  rw [← hX7] at hI9
  have hlt7 : ∀ k, _ → k < we.heap.size := fun k z => I.lt HBI.out k (.inl z)
  have hBIn := I.keep HBI.out (Kp.below b7 (fun k q => I.lt HBI.out k (.inl q))) (Kp.below b7 (fun k q => I.lt HBI.out k (.inr q))) b7.size
  have hBWn := HBW.out.trans (b7.mono HBW.out.size)
  clear HBI HBW
  have HBI := Lib.hid hBIn
  have HBW := Lib.hid hBWn
  clear hBIn hBWn
  have hcl := I.opn (nv := nv8 1 0 (some ⟨we.heap.size, 0, none⟩, 1, 1) (none, 0, 0)) (y := y8) HBI.out (I.tb HTB.out HBW.out) ⟨hdis8 1 0 hI9, NsS.nil _ _⟩ (fun k z => ⟨by omega, fun z2 => by have := hlt7 k z2; omega⟩) (by decide)
  have HCL := Lib.hid hcl
  have HX7 := Lib.hid hX7
  clear hX7 b7 hz7 hI9 hlt7 hcl
  go_wp2_with fail
  rw [← HX7.out]
  clear HX7
  refine HCL.out.mono ?_
  rintro e we ⟨rfl, X2, R2, g1, g2, g3, g4⟩
  have hBWn := g2.below HBW.out.size HX.out
  have hX2w : ∀ k, X2 k → w.heap.size ≤ k := fun k q => (g3 k q).elim (HX.out k) (fun z => Nat.le_trans HBW.out.size z)
  have hBW2 := HBW.out.trans hBWn
  clear HBI HBW HX
  have HBI := Lib.hid g1
  have HBW := Lib.hid hBW2
  have HX := Lib.hid hX2w
  clear g1 g2 g3 g4 hBWn hX2w hBW2 HCL
  obtain ⟨X7, hX7⟩ : ∃ Y, Y = we.alloc (.cells #[.int .i32 97, .int .u8 0] 56) := ⟨_, rfl⟩
  have b7 : Below we.heap.size we X7 := by rw [hX7]; exact below_lit _ _
  have hz7 : X7.heap.size = we.heap.size + 1 := by rw [hX7, World.size_alloc]
  have hI9 := gly8 we 97
  rw [← hX7] at hI9
  have hlt7 : ∀ k, _ → k < we.heap.size := fun k z => I.lt HBI.out k (.inl z)
  have hBIn := I.keep HBI.out (Kp.below b7 (fun k q => I.lt HBI.out k (.inl q))) (Kp.below b7 (fun k q => I.lt HBI.out k (.inr q))) b7.size
  have hBWn := HBW.out.trans (b7.mono HBW.out.size)
  clear HBI HBW
  have HBI := Lib.hid hBIn
  have HBW := Lib.hid hBWn
  clear hBIn hBWn
  have hcl := I.text (gl8 97) 4 HBI.out (I.tb HTB.out HBW.out) hI9 (fun k z => ⟨by omega, fun z2 => by have := hlt7 k z2; omega⟩) (by decide)
  have HCL := Lib.hid hcl
  have HX7 := Lib.hid hX7
  clear hX7 b7 hz7 hI9 hlt7 hcl
  go_wp2_with fail
  rw [← HX7.out]
  clear HX7
  refine HCL.out.mono ?_
  rintro e we ⟨rfl, X2, R2, g1, g2, g3, g4⟩
  have hBWn := g2.below HBW.out.size HX.out
  have hX2w : ∀ k, X2 k → w.heap.size ≤ k := fun k q => (g3 k q).elim (HX.out k) (fun z => Nat.le_trans HBW.out.size z)
  have hBW2 := HBW.out.trans hBWn
  clear HBI HBW HX
  have HBI := Lib.hid g1
  have HBW := Lib.hid hBW2
  have HX := Lib.hid hX2w
  clear g1 g2 g3 g4 hBWn hX2w hBW2 HCL
  obtain ⟨X7, hX7⟩ : ∃ Y, Y = we.alloc (.cells #[.int .i32 98, .int .u8 0] 56) := ⟨_, rfl⟩
  have b7 : Below we.heap.size we X7 := by rw [hX7]; exact below_lit _ _
  have hz7 : X7.heap.size = we.heap.size + 1 := by rw [hX7, World.size_alloc]
  have hI9 := gly8 we 98
  rw [← hX7] at hI9
  have hlt7 : ∀ k, _ → k < we.heap.size := fun k z => I.lt HBI.out k (.inl z)
  have hBIn := I.keep HBI.out (Kp.below b7 (fun k q => I.lt HBI.out k (.inl q))) (Kp.below b7 (fun k q => I.lt HBI.out k (.inr q))) b7.size
  have hBWn := HBW.out.trans (b7.mono HBW.out.size)
  clear HBI HBW
  have HBI := Lib.hid hBIn
  have HBW := Lib.hid hBWn
  clear hBIn hBWn
  have hcl := I.text (gl8 98) 5 HBI.out (I.tb HTB.out HBW.out) hI9 (fun k z => ⟨by omega, fun z2 => by have := hlt7 k z2; omega⟩) (by decide)
  have HCL := Lib.hid hcl
  have HX7 := Lib.hid hX7
  clear hX7 b7 hz7 hI9 hlt7 hcl
  go_wp2_with fail
  rw [← HX7.out]
  clear HX7
  refine HCL.out.mono ?_
  rintro e we ⟨rfl, X2, R2, g1, g2, g3, g4⟩
  have hBWn := g2.below HBW.out.size HX.out
  have hX2w : ∀ k, X2 k → w.heap.size ≤ k := fun k q => (g3 k q).elim (HX.out k) (fun z => Nat.le_trans HBW.out.size z)
  have hBW2 := HBW.out.trans hBWn
  clear HBI HBW HX
  have HBI := Lib.hid g1
  have HBW := Lib.hid hBW2
  have HX := Lib.hid hX2w
  clear g1 g2 g3 g4 hBWn hX2w hBW2 HCL
  have HBI8 : Hid (BI X2 R2 we b t8) := HBI
  clear HBI
  have HBI := HBI8
  clear HBI8
  have hdc := I.doc HBI.out (I.tb HTB.out HBW.out) (by decide)
  rw [nm8, doc8] at hdc
  unfold docV docL at hdc
  have HDC := Lib.hid hdc
  clear hdc
  go_wp2_with fail
  refine HDC.out.mono ?_
  rintro e wd ⟨⟨s1, s2, s3⟩, rfl, hn1, hbd⟩
  simp only [pv] at hn1 ⊢
  clear HDC
  have hBIn := I.keep HBI.out (Kp.below hbd (fun k q => I.lt HBI.out k (.inl q))) (Kp.below hbd (fun k q => I.lt HBI.out k (.inr q))) hbd.size
  have hBWn := HBW.out.trans (hbd.mono HBW.out.size)
  clear HBI HBW
  have HBI := Lib.hid hBIn
  have HBW := Lib.hid hBWn
  clear hBIn hBWn
  obtain ⟨X5, hX5⟩ : ∃ Y, Y = wd.alloc (.cells #[.string ⟨#[]⟩, .string ⟨#[]⟩, .string ⟨#[]⟩, .string ⟨#[]⟩, .slice s1 s2 s3] 29) := ⟨_, rfl⟩
  have b5 : Below wd.heap.size wd X5 := by rw [hX5]; exact below_lit _ _
  obtain ⟨o1, ho1⟩ : ∃ q, wd.heap.size = q := ⟨_, rfl⟩
  have hKD : Blk X5 o1 29 [.string ⟨#[]⟩, .string ⟨#[]⟩, .string ⟨#[]⟩, .string ⟨#[]⟩, .slice s1 s2 s3] := by rw [← ho1, hX5]; exact heap_alloc_new wd _
  have hN5 : NsS (fun k => k < X5.heap.size) X5 (.slice s1 s2 s3) want8 := (hn1.keep (Kp.below b5 (fun k q => q.2))).mono (fun k q => Nat.lt_of_lt_of_le q.2 b5.size)
  have hBIn := I.keep HBI.out (Kp.below b5 (fun k q => I.lt HBI.out k (.inl q))) (Kp.below b5 (fun k q => I.lt HBI.out k (.inr q))) b5.size
  have hBWn := HBW.out.trans (b5.mono HBW.out.size)
  clear HBI HBW
  have HBI := Lib.hid hBIn
  have HBW := Lib.hid hBWn
  clear hBIn hBWn
  obtain ⟨X6, hX6⟩ : ∃ W4, W4 = (((X5.alloc (.cells #[.int .i32 120, .int .u8 0] 56)).alloc (.cells #[.int .i32 97, .int .u8 0, .int .i32 32, .int .u8 0, .int .i32 98, .int .u8 0] 56)).alloc (.cells #[.int .i64 3, .int .i64 4, .int .i64 0, .slice (some ⟨X5.heap.size + 1, 0, none⟩) 3 3, .slice none 0 0, .slice none 0 0, .string ⟨#[]⟩, .slice none 0 0, .bool false, .bool false] 40)).alloc (.cells #[.int .i64 1, .int .i64 0, .int .i64 0, .slice (some ⟨X5.heap.size, 0, none⟩) 1 1, .slice (some ⟨X5.heap.size + 1 + 1, 0, none⟩) 1 1, .slice none 0 0, .string ⟨#[]⟩, .slice none 0 0, .bool false, .bool false] 40) := ⟨_, rfl⟩
  obtain ⟨hw4, b6⟩ := want_is X5 X6 hX6
  have c4 : X6.cell? ⟨o1, 4, none⟩ = some (.slice s1 s2 s3) := (hKD.below b6).cell 4
  have hsm := rsame_any _ _ _ want8 want8 rfl (by decide) (by decide) _ _ X6 ((hN5.keep (Kp.below b6 (fun k q => q))).mono (T := fun k => k < X6.heap.size) (fun k q => Nat.lt_of_lt_of_le q b6.size)) hw4 (fun k q => q) (fun k q => q)
  rw [eqNs_true rfl] at hsm
  have HSM := Lib.hid hsm
  have hBIn := I.keep HBI.out (Kp.below b6 (fun k q => I.lt HBI.out k (.inl q))) (Kp.below b6 (fun k q => I.lt HBI.out k (.inr q))) b6.size
  have hBWn := HBW.out.trans (b6.mono HBW.out.size)
  clear HBI HBW
  have HBI := Lib.hid hBIn
  have HBW := Lib.hid hBWn
  clear hBIn hBWn
  have HX5 := Lib.hid hX5
  have HX6 := Lib.hid hX6
  have HO1 := Lib.hid ho1
  clear hn1 hbd hX5 b5 hKD hN5 hX6 hw4 b6 hsm ho1
  go_upto_region 6 with fail
  rw [← HX5.out]
  try rw [HO1.out]
  go_upto_region 8 with fail
  rw [← HX6.out]
  clear HX5 HX6 HO1
  go_wp2_with fail
  refine HSM.out.mono ?_
  rintro e w5 ⟨rfl, b7⟩
  clear HSM c4
  have hBIn := I.keep HBI.out (Kp.below b7 (fun k q => I.lt HBI.out k (.inl q))) (Kp.below b7 (fun k q => I.lt HBI.out k (.inr q))) b7.size
  have hBWn := HBW.out.trans (b7.mono HBW.out.size)
  clear HBI HBW
  have HBI := Lib.hid hBIn
  have HBW := Lib.hid hBWn
  clear hBIn hBWn
  clear b7
  have hdp := I.depth HBI.out (I.tb HTB.out HBW.out)
  rw [opn8] at hdp
  have HDP := Lib.hid hdp
  clear hdp
  go_wp2_with fail
  refine HDP.out.mono ?_
  rintro e w6 ⟨rfl, b8⟩
  clear HDP
  have hBIn := I.keep HBI.out (Kp.below b8 (fun k q => I.lt HBI.out k (.inl q))) (Kp.below b8 (fun k q => I.lt HBI.out k (.inr q))) b8.size
  have hBWn := HBW.out.trans (b8.mono HBW.out.size)
  clear HBI HBW
  have HBI := Lib.hid hBIn
  have HBW := Lib.hid hBWn
  clear hBIn hBWn
  clear b8
  have HDP := Lib.hid (HNI.out _ (I.tb HTB.out HBW.out))
  go_wp2_with fail
  refine HDP.out.mono ?_
  rintro e w7 ⟨rfl, b9⟩
  clear HDP
  have hBIn := I.keep HBI.out (Kp.below b9 (fun k q => I.lt HBI.out k (.inl q))) (Kp.below b9 (fun k q => I.lt HBI.out k (.inr q))) b9.size
  have hBWn := HBW.out.trans (b9.mono HBW.out.size)
  clear HBI HBW
  have HBI := Lib.hid hBIn
  have HBW := Lib.hid hBWn
  clear hBIn hBWn
  clear b9
  go_wp2_with fail
  go_ret
  exact ⟨rfl, HBW.out⟩
end Go.Proofs.YtpccjgoeoeehoaaDoor
