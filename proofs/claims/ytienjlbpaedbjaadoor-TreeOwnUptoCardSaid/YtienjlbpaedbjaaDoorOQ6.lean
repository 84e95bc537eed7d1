/- The program's own for documents: glyphs squeezed. -/
import Derived.Test.YtienjlbpaedbjaaDoorOQ2
import Derived.Test.YtienjlbpaedbjaaDoorODe
namespace Go.Proofs.YtienjlbpaedbjaaDoor
open Go.RowKit

def endB (l : List Gly) : Bool := match l.getLast? with
  | none => false
  | some g => g.1 == 32
/-- Is a blank due ahead of the next glyph? -/
def due (l : List Gly) : Bool := endB l && !(sqz l).isEmpty
theorem endB_snoc (l : List Gly) (g : Gly) : endB (l ++ [g]) = (g.1 == 32) := by simp [endB]
theorem trm_blank {g : Gly} (h : g.1 = 32) : ∀ l : List Gly, trm (l ++ [g]) = trm l
  | [] => by simp [trm, h]
  | x :: l => by
    rw [List.cons_append, trm_cons, trm_blank h l, trm_cons]
theorem trm_other {g : Gly} (h : g.1 ≠ 32) : ∀ l : List Gly, trm (l ++ [g]) = l ++ [g]
  | [] => by simp [trm, h]
  | x :: l => by
    rw [List.cons_append, trm_cons, trm_other h l, if_neg (fun k => by simp at k)]
theorem sqz_blank {g : Gly} (h : g.1 = 32) (l : List Gly) : sqz (l ++ [g]) = sqz l := by unfold sqz; rw [trm_blank h]
theorem sqA_dueN : ∀ (n : Nat) (l : List Gly), l.length = n → sqA false l = sqz l ++ (if due l then [(32, 0)] else [])
  | 0, l, h => by
    rw [List.eq_nil_of_length_eq_zero h]
    rfl
  | n + 1, l, h => by
    rcases List.eq_nil_or_concat l with rfl | ⟨Q, b, rfl⟩
    · rfl
    rw [List.concat_eq_append] at h ⊢
    have ih := sqA_dueN n Q (by simpa using h)
    unfold due
    rw [endB_snoc]
    by_cases hb : b.1 = 32
    · rw [sqz_blank hb, sqA_app, sqA_blank _ hb]
      have e1 : (b.1 == 32) = true := by simpa using hb
      rw [e1, Bool.true_and]
      have e0 : sqA false [] = [] := rfl
      rw [e0]
      by_cases hd : due Q = true
      · rw [if_pos hd] at ih
        have hne : (!(sqz Q).isEmpty) = true := by unfold due at hd; rw [Bool.and_eq_true] at hd; exact hd.2
        rw [ih, hne]
        simp [lastNB]
      · rw [if_neg hd, List.append_nil] at ih
        rw [ih]
        by_cases hq : sqz Q = []
        · rw [hq]; rfl
        · have hne : (!(sqz Q).isEmpty) = true := by simpa using hq
          rw [hne]
          have hend : endB Q = false := by
            unfold due at hd
            rw [hne, Bool.and_true] at hd
            simpa using hd
          have hl : lastNB false (sqz Q) = true := by
            rcases List.eq_nil_or_concat Q with rfl | ⟨R, c, rfl⟩
            · exact absurd rfl hq
            · rw [List.concat_eq_append] at hend ih ⊢
              rw [endB_snoc] at hend
              have hc : c.1 ≠ 32 := by simpa using hend
              rw [← ih, sqA_app, sqA_other _ hc]
              have e0 : sqA true [] = [] := rfl
              rw [e0]
              simp [lastNB, hc]
          rw [hl]
    · have e1 : (b.1 == 32) = false := by simpa using hb
      rw [e1, Bool.false_and]
      unfold sqz
      rw [trm_other hb]
      simp
theorem sqA_due (l : List Gly) : sqA false l = sqz l ++ (if due l then [(32, 0)] else []) := sqA_dueN _ l rfl
theorem sqz_other {g : Gly} (h : g.1 ≠ 32) (l : List Gly) : sqz (l ++ [g]) = sqz l ++ (if due l then [(32, 0)] else []) ++ [g] := by
  rw [← sqA_due]
  unfold sqz
  rw [trm_other h, sqA_app, sqA_other _ h]
  rfl
theorem due_blank {g : Gly} (h : g.1 = 32) (l : List Gly) : due (l ++ [g]) = !(sqz l).isEmpty := by
  unfold due
  rw [endB_snoc, sqz_blank h, show (g.1 == 32) = true by simpa using h, Bool.true_and]
theorem due_other {g : Gly} (h : g.1 ≠ 32) (l : List Gly) : due (l ++ [g]) = false := by
  unfold due
  rw [endB_snoc, show (g.1 == 32) = false by simpa using h, Bool.false_and]
theorem dec_all' {p q : Prop} [Decidable p] [Decidable q] (h : p ↔ q) : decide p = decide q := by simp [h]
theorem take_snoc' {α : Type} {l : List α} {j : Nat} {x : α} (h : l[j]? = some x) : l.take (j + 1) = l.take j ++ [x] := by
  rw [List.take_add_one, h]; rfl

theorem FOwn.blt {α : Type} {e n : Nat} {f : α → List Value} {base : Nat} {W : World} {x : Value} {l : List α} (h : FOwn e n f base W x l) {g : Nat} (hg : x.ownBlock = some g) : g < W.heap.size := by
  obtain ⟨-, cur, hc⟩ := h.ty hg
  exact (Array.getElem?_eq_some_iff.1 hc).1
/-- A glyph behind a row of the call's own; all else stands. -/
theorem gpush2 {base : Nat} {W : World} {x : Value} {l : List Gly} (h : GOwn base W x l) (hb : base ≤ W.heap.size) (hl : l.length ≤ 500000) (r s : Int) :
    ∃ a' c' w', (appG #[x, .slice (some ⟨W.heap.size, 0, none⟩) 1 1]).run Tryd.prog (W.alloc (.cells #[.int .i32 r, .int .u8 s] 50)) = .ok (.value (.slice a' (l.length + 1) c')) w' ∧ GOwn base w' (.slice a' (l.length + 1) c') (l ++ [(r, s)]) ∧ Below base W w' ∧ Exc (fun b => x.ownBlock = some b) W w' := by
  have b1 := below_lit W (.cells #[.int .i32 r, .int .u8 s] 50)
  have hu : Gs (W.alloc (.cells #[.int .i32 r, .int .u8 s] 50)) (.slice (some ⟨W.heap.size, 0, none⟩) 1 1) [(r, s)] := fs_lit gcell_len W 50 [(r, s)]
  obtain ⟨x', w', hr, ho, hg, -⟩ := appG_own (h.keep b1) hu (Nat.le_trans hb b1.size) (by simp; omega)
  obtain ⟨a', c', e⟩ := (FOwn.sl gcell_len ho).len
  have hbel := (h.keep b1).below (b1.mono hb) (Nat.le_trans hb b1.size) hg
  have e2 : (l ++ [(r, s)]).length = l.length + 1 := by simp
  rw [e2] at e
  subst e
  refine ⟨a', c', w', hr, ho, hbel, ⟨hbel.os, hbel.tape, hbel.output, hbel.size, fun k hk hx => ?_⟩⟩
  exact (hg.block k (Nat.lt_of_lt_of_le hk b1.size) (fun e => hx e.symm)).trans (b1.block k hk)
attribute [local go_sem ↓ high] builtin_appG
set_option maxRecDepth 100000 in
set_option maxHeartbeats 2000000 in
theorem psqueeze_any (l : List Gly) (v : Value) (w : World) (hv : Gs w v l) (hl : l.length ≤ 90000) :
    Calls Tryd.prog 75 #[v] w fun e w' => ∃ u, e = .returned u ∧ GOwn w.heap.size w' u (sqz l) ∧ Below w.heap.size w w' := by
  have HV := Lib.hid hv
  obtain ⟨va, vc, rfl⟩ := hv.len
  clear hv
  go_enter Tryd.func75, Tryd.ntmps75
  go_wp2_with fail
  go_step3
  go_wp2_with fail
  go_step3
  go_wp2_with fail
  go_loopw [3, 4, 9] (fun s q i wr => ∃ j : Nat, j ≤ l.length ∧ i = .int .i64 j ∧ q = .bool (due (l.take j)) ∧ Hid (GOwn w.heap.size wr s (sqz (l.take j))) ∧ Hid (Below w.heap.size w wr)) (fun _ _ i _ => l.length - (intOf i).toNat)
  case atStart => exact ⟨0, by omega, rfl, rfl, Lib.hid (FOwn.nil _ _), Lib.hid (Below.refl _ _)⟩
  case round =>
    obtain ⟨j, hj, rfl, rfl, HO, BW⟩ := hrel
    have hsl := sqz_len (l.take j)
    rw [List.length_take] at hsl
    obtain ⟨sa, sc, hs⟩ := (FOwn.sl gcell_len HO.out).len
    subst hs
    by_cases hlt : j < l.length
    · obtain ⟨z, hz⟩ : ∃ z, l[j]? = some z := ⟨l[j], List.getElem?_eq_getElem hlt⟩
      have HTS := Lib.hid (take_snoc' hz)
      obtain ⟨g, off, rfl, c0, c1, -⟩ := Gs.at (Fs.below HV.out BW.out) hz
      have hi0 : (j : Int) < (l.length : Int) := by omega
      have hi1 : (0 : Int) ≤ (j : Int) := by omega
      obtain ⟨z0, z1⟩ := z
      simp only at c0 c1
      have bl := below_lit wr (.cells #[.int .i32 z0, .int .u8 z1] 50)
      have BL := Lib.hid (BW.out.trans (bl.mono BW.out.size))
      have HOL := Lib.hid (HO.out.keep bl)
      clear hz
      by_cases h32 : z0 = 32
      · have HN := Lib.hid (sqz_blank (g := (z0, z1)) h32 (l.take j))
        have HD := Lib.hid (due_blank (g := (z0, z1)) h32 (l.take j))
        subst h32
        obtain ⟨O, hO⟩ : ∃ O, sqz (l.take j) = O := ⟨_, rfl⟩
        rw [hO] at HN HD HOL ⊢
        by_cases hne : O = []
        · subst hne
          have HD2 : Hid (due (l.take j ++ [(32, z1)]) = false) := Lib.hid (by rw [HD.out]; rfl)
          clear hO hsl HO bl HD
          go_wp2_with fail
          go_roundw
          case rel => exact ⟨j + 1, by omega, by go_num, by rw [HTS.out, HD2.out], by rw [HTS.out, HN.out]; exact HOL, BL⟩
          case measure => (simp [intOf]; try omega)
        · have HD2 : Hid (due (l.take j ++ [(32, z1)]) = true) := Lib.hid (by rw [HD.out]; simpa using hne)
          have p0 : 0 < O.length := List.length_pos_iff.2 hne
          obtain ⟨n, hn⟩ : ∃ n, O.length = n := ⟨_, rfl⟩
          rw [hn] at p0 ⊢
          have p1 : (0 : Int) < (n : Int) := by omega
          have HHN := Lib.hid hn
          clear hO hsl hn HO bl HD hne
          go_wp2_with fail
          go_roundw
          case rel => exact ⟨j + 1, by omega, by go_num, by rw [HTS.out, HD2.out], by rw [HTS.out, HN.out]; exact HHN.out ▸ HOL, BL⟩
          case measure => (simp [intOf]; try omega)
      · have HN := Lib.hid (sqz_other (g := (z0, z1)) h32 (l.take j))
        have HD := Lib.hid (due_other (g := (z0, z1)) h32 (l.take j))
        have e32 : (z0 == 32) = false := by simpa using h32
        have hX : Blk (wr.alloc (.cells #[.int .i32 z0, .int .u8 z1] 50)) wr.heap.size 50 [.int .i32 z0, .int .u8 z1] := heap_alloc_new wr _
        have hown : (Value.slice sa (sqz (l.take j)).length sc).ownBlock ≠ some wr.heap.size := fun e => by have := HO.out.blt e; omega
        by_cases hdu : due (l.take j) = true
        · rw [if_pos hdu] at HN
          obtain ⟨a1, n1, w1, hr1, ho1, hb1, he1⟩ := gpush2 HOL.out BL.out.size (by omega) 32 0
          have hX1 := he1.blk hX hown
          have x0 : w1.cell? ⟨wr.heap.size, 0, none⟩ = some (.int .i32 z0) := hX1.cell 0
          have x1 : w1.cell? ⟨wr.heap.size, 1, none⟩ = some (.int .u8 z1) := hX1.cell 1
          have B1 := BL.out.trans hb1
          obtain ⟨a2, n2, w2, hr2, ho2, hb2, -⟩ := gpush2 ho1 B1.size (by simp; omega) z0 z1
          have B2 := Lib.hid (B1.trans hb2)
          rw [List.length_append] at hr2 ho2
          simp only [List.length_cons, List.length_nil, Nat.zero_add] at hr2 ho2
          have H2 := Lib.hid ho2
          rw [hdu]
          obtain ⟨O, hO⟩ : ∃ O, sqz (l.take j) = O := ⟨_, rfl⟩
          rw [hO] at HN H2 hr1 hr2 hsl ⊢
          obtain ⟨n, hn⟩ : ∃ n, O.length = n := ⟨_, rfl⟩
          rw [hn] at hr1 hr2 H2 ⊢
          rw [World.size_alloc] at hr1
          clear hO hsl hn HO bl h32 hdu hX hX1 hown ho1 hb1 he1 B1 ho2 hb2 HOL
          go_wp2_with fail
          go_roundw
          case rel => exact ⟨j + 1, by omega, by go_num, by rw [HTS.out, HD.out], by rw [HTS.out, HN.out]; exact H2, B2⟩
          case measure => (simp [intOf]; try omega)
        · have hdf : due (l.take j) = false := by simpa using hdu
          rw [hdf] at HN
          simp only [Bool.false_eq_true, if_false, List.append_nil] at HN
          obtain ⟨a2, n2, w2, hr2, ho2, hb2, -⟩ := gpush2 HOL.out BL.out.size (by omega) z0 z1
          have B2 := Lib.hid (BL.out.trans hb2)
          have H2 := Lib.hid ho2
          rw [hdf]
          obtain ⟨O, hO⟩ : ∃ O, sqz (l.take j) = O := ⟨_, rfl⟩
          rw [hO] at HN H2 hr2 hsl ⊢
          obtain ⟨n, hn⟩ : ∃ n, O.length = n := ⟨_, rfl⟩
          rw [hn] at hr2 H2 ⊢
          rw [World.size_alloc] at hr2
          clear hO hsl hn HO bl h32 hdu hdf hX hown ho2 hb2 HOL
          go_wp2_with fail
          go_roundw
          case rel => exact ⟨j + 1, by omega, by go_num, by rw [HTS.out, HD.out], by rw [HTS.out, HN.out]; exact H2, B2⟩
          case measure => (simp [intOf]; try omega)
    · obtain rfl : j = l.length := by omega
      have hlt' : ¬ (l.length : Int) < (l.length : Int) := by omega
      rw [List.take_length] at HO ⊢
      go_wp2_with fail
      go_ret
      exact ⟨_, rfl, HO.out, BW.out⟩
set_option maxRecDepth 100000 in
theorem psqueezed_any (l : List Gly) (v : Value) (w : World) (hv : Gs w v l) (hl : l.length ≤ 90000) :
    Calls Tryd.prog 45 #[v] w fun e w' => e = .returned (.bool (sqd l)) ∧ Below w.heap.size w w' := by
  have HQ := Lib.hid (psqueeze_any l v w hv hl)
  have hql := sqz_len l
  have HC := Lib.hid (fun W u (hb : Below w.heap.size w W) (hu : Gs W u (sqz l)) => csame_any l (sqz l) v u W (Fs.below hv hb) hu (by omega) (by omega))
  have e : sqd l = decide (l = sqz l) := dec_all' (by rw [eq_comm])
  rw [e]
  obtain ⟨p, hp⟩ : ∃ p, decide (l = sqz l) = p := ⟨_, rfl⟩
  rw [hp] at HC ⊢
  clear hp e hql
  obtain ⟨va, vc, rfl⟩ := hv.len
  clear hv
  go_enter Tryd.func45, Tryd.ntmps45
  go_wp2_with fail
  refine HQ.out.mono ?_
  rintro e w1 ⟨u, rfl, hu, b1⟩
  have HC1 := Lib.hid (HC.out w1 u b1 (FOwn.sl gcell_len hu))
  have B1 := Lib.hid b1
  clear hu b1 HC HQ
  go_wp2_with fail
  refine HC1.out.mono ?_
  rintro e w2 ⟨rfl, b2⟩
  have B2 := Lib.hid (B1.out.trans (b2.mono B1.out.size))
  clear b2 HC1
  go_wp2_with fail
  go_ret
  exact ⟨rfl, B2.out⟩
end Go.Proofs.YtienjlbpaedbjaaDoor
