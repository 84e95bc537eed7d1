/- The walk of BuildTexts, over whatever a builder keeps. -/
import Derived.Test.YtpccjgoeoeehoaaDoorBe
import Derived.Test.YtpccjgoeoeehoaaDoorBs
import Derived.Test.YtpccjgoeoeehoaaDoorBm
import Derived.Deep.RegionHeld3
set_option linter.unusedVariables false
set_option linter.unusedSimpArgs false
namespace Go.Proofs.YtpccjgoeoeehoaaDoor
open Go.RowKit
theorem FOwn.stays {α : Type} {e n : Nat} {f : α → List Value} {base : Nat} {W W' : World} {x : Value} {l : List α} (h : FOwn e n f base W x l) (hk : ∀ k, x.ownBlock = some k → W'.heap[k]? = W.heap[k]?) : FOwn e n f base W' x l := by
  refine ⟨h.1, ?_⟩
  rcases h.2 with h0 | ⟨g, cap, cur, e1, hg, hh, r⟩
  · exact .inl h0
  · exact .inr ⟨g, cap, cur, e1, hg, (hk g (by rw [e1]; rfl)).trans hh, r⟩
theorem FOwn.bltT {α : Type} {e n : Nat} {f : α → List Value} {base : Nat} {W : World} {x : Value} {l : List α} (h : FOwn e n f base W x l) {g : Nat} (hg : x.ownBlock = some g) : base ≤ g ∧ g < W.heap.size := by
  obtain ⟨h1, cur, h2⟩ := h.ty hg
  exact ⟨h1, (Array.getElem?_eq_some_iff.1 h2).1⟩
theorem gpushT {base : Nat} {W : World} {x : Value} {l : List Gly} (h : GOwn base W x l) (hb : base ≤ W.heap.size) (hl : l.length ≤ 500000) (r s : Int) :
    ∃ a' c' w', (appG #[x, .slice (some ⟨W.heap.size, 0, none⟩) 1 1]).run Tryd.prog (W.alloc (.cells #[.int .i32 r, .int .u8 s] 56)) = .ok (.value (.slice a' (l.length + 1) c')) w' ∧ GOwn base w' (.slice a' (l.length + 1) c') (l ++ [(r, s)]) ∧ Below base W w' ∧ W.heap.size ≤ w'.heap.size ∧ (∀ k, k < W.heap.size → x.ownBlock ≠ some k → w'.heap[k]? = W.heap[k]? ∧ (Value.slice a' (l.length + 1) c').ownBlock ≠ some k) := by
  have b1 := below_lit W (.cells #[.int .i32 r, .int .u8 s] 56)
  have hu : Gs (W.alloc (.cells #[.int .i32 r, .int .u8 s] 56)) (.slice (some ⟨W.heap.size, 0, none⟩) 1 1) [(r, s)] := fs_lit gcell_len W 56 [(r, s)]
  obtain ⟨x', w', hr, ho, hg, hn⟩ := appG_own (h.keep b1) hu (Nat.le_trans hb b1.size) (by simp; omega)
  obtain ⟨a', c', e⟩ := (FOwn.sl gcell_len ho).len
  have hbel := (h.keep b1).below (b1.mono hb) (Nat.le_trans hb b1.size) hg
  have e2 : (l ++ [(r, s)]).length = l.length + 1 := by simp
  rw [e2] at e
  subst e
  refine ⟨a', c', w', hr, ho, hbel, Nat.le_trans b1.size hg.size, fun k hk hx => ⟨(hg.block k (Nat.lt_of_lt_of_le hk b1.size) (fun z => hx z.symm)).trans (b1.block k hk), fun z => ?_⟩⟩
  rcases hn with hn | hn
  · exact hx (hn ▸ z)
  · rw [hn] at z
    injection z with z
    have := b1.size
    omega
theorem end_text (t : Bt) : (bEnd t).text = [] := by unfold bEnd; split <;> rfl
attribute [local go_sem ↓ high] builtin_appG
set_option maxRecDepth 100000 in
set_option maxHeartbeats 16000000 in
theorem buildtexts_walk (BI : BIT) (TB : World → Prop) (I : Impl BI TB) (hK : ∀ W, TB W → Calls Tryd.prog 9 #[] W fun e w' => e = .returned (.bool true) ∧ Below W.heap.size W w')
    (hTL : ∀ x : Tx, TxOk x → x.t.text = [] → x.n ≤ 20000 → (bDoc x.t).length = x.n ∧ lvL (bDoc x.t) = x.want)
    (l : List (List Gly)) (es : List Bool) (v ve : Value) (w : World) (hTB : TB w) (hv : GrS (fun k => k < w.heap.size) w v l) (he : FsS (fun k => k < w.heap.size) 1 blcell w ve es) (hl : ∀ r ∈ l, r.length ≤ 1000000000000000) (hll : l.length ≤ 1000000000000000) :
    Calls Tryd.prog 6 #[v, ve] w fun e w' => e = .returned (.bool true) ∧ Below w.heap.size w w' := by
  have HV := Lib.hid hv
  have HE := Lib.hid he
  have HTB := Lib.hid hTB
  have HLL := Lib.hid hl
  have HK : Hid (∀ W, Below w.heap.size w W → Calls Tryd.prog 9 #[] W fun e w' => e = .returned (.bool true) ∧ Below w.heap.size w w') := Lib.hid (fun W q => (hK W (I.tb hTB q)).mono fun e w' ⟨e1, e2⟩ => ⟨e1, q.trans (e2.mono q.size)⟩)
  have HTL := Lib.hid hTL
  obtain ⟨va, vc, rfl⟩ := hv.len
  obtain ⟨ea, ec, rfl⟩ := he.1.len
  obtain ⟨ln, hln⟩ : ∃ n, l.length = n := ⟨_, rfl⟩
  obtain ⟨en, hen⟩ : ∃ n, es.length = n := ⟨_, rfl⟩
  have HLN := Lib.hid hln
  have HEN := Lib.hid hen
  rw [hln] at HV hll ⊢
  rw [hen] at HE ⊢
  clear hv he hTB hl hln hen hTL hK
  have HNW := Lib.hid (I.new w)
  go_enter Tryd.func6, Tryd.ntmps6
  go_wp2_with fail
  refine HNW.out.mono ?_
  rintro e w2 ⟨b, X0, rfl, h1, h2, h3⟩
  have HBI0 := Lib.hid h1
  have HBW0 := Lib.hid h2
  have HX0 := Lib.hid h3
  clear h1 h2 h3 HNW
  go_wp2_with fail
  go_loopw [6, 7, 8, 9, 10, 11] (fun n6 n7 n8 n9 n10 _ wr => ∃ (p N xn : Nat) (xi : Bool) (xt : Bt) (xw : List Gly) (X R : Nat → Prop), p ≤ ln ∧ n6 = .int .i64 (N : Int) ∧ n7 = .int .i64 (xn : Int) ∧ n8 = .bool xi ∧ n10 = .int .i64 (p : Int) ∧ N ≤ 400 ∧ Hid (BI X R wr b xt) ∧ Hid (Below w.heap.size w wr) ∧ Hid (∀ k, X k → w.heap.size ≤ k) ∧ Hid (∀ k, X k ∨ R k → n9.ownBlock ≠ some k) ∧ Hid (GOwn w.heap.size wr n9 xw) ∧ Hid (TxOk ⟨xt, xn, xi, xw⟩) ∧ Hid (p = ln → xt.text = []) ∧ Hid (p ≤ N ∧ xn ≤ p ∧ xw.length ≤ N ∧ btl xt ≤ 4 * N)) (fun _ _ _ _ i _ _ => ln - (intOf i).toNat)
  case atStart => exact ⟨0, 0, 0, false, bt0, [], X0, _, by omega, rfl, rfl, rfl, rfl, by omega, HBI0, HBW0, HX0, Lib.hid (fun k q z => by cases z), Lib.hid (FOwn.nil _ _), Lib.hid txOk0, Lib.hid (fun _ => rfl), Lib.hid ⟨by omega, by omega, by simp, by show btl bt0 ≤ _; exact Nat.zero_le _⟩⟩
  case round =>
    obtain ⟨p, N, xn, xi, xt, xw, X, R, hp, rfl, rfl, rfl, rfl, hN, HBI, HBW, HX, HOX, HO, HTX, HTE, HB⟩ := hrel
    obtain ⟨s9a, s9c, hs9⟩ := (FOwn.sl gcell_len HO.out).len
    subst hs9
    by_cases hlt : p < ln
    · skip
      obtain ⟨y, hy⟩ : ∃ y, l[p]? = some y := ⟨l[p]'(by rw [HLN.out]; exact hlt), List.getElem?_eq_getElem _⟩
      have hyl := HLL.out y (List.mem_of_getElem? hy)
      obtain ⟨g, off, q1, q3, rfl, hgS, -, -⟩ := HV.out.at hy
      obtain ⟨yn, hyn⟩ : ∃ n, y.length = n := ⟨_, rfl⟩
      rw [hyn] at hyl
      have HYN := Lib.hid hyn
      have HROW0 := HV.out.at hy
      clear HROW0
      have HROW : Hid (∃ q1 q3, ∀ W, Below w.heap.size w W → W.cell? ⟨g, off + p, none⟩ = some (.slice q1 yn q3) ∧ FsS (fun k => k < w.heap.size) 2 gcell W (.slice q1 yn q3) y) := Lib.hid (by
        obtain ⟨g', off', r1, r3, e0, hg0, c0, hf⟩ := HV.out.at hy
        injection e0 with e0
        injection e0 with e1 e2
        subst e1 e2
        rw [hyn] at c0 hf
        exact ⟨r1, r3, fun W hb => ⟨(World.cell?_of_block (hb.block _ hg0)).trans c0, hf.keep (Kp.below hb (fun k q => q))⟩⟩)
      clear hgS hy hyn q1 q3
      obtain ⟨q1, q3, hrow⟩ := HROW.out
      clear HROW
      have HROW := Lib.hid hrow
      have c0 := (hrow wr HBW.out).1
      clear hrow
      have hlt' : (p : Int) < (ln : Int) := by omega
      have hp0 : (0 : Int) ≤ (p : Int) := by omega
      by_cases h4 : N + 1 + yn > 400
      · skip
        have h4' : (N : Int) + 1 + (yn : Int) > 400 := by omega
        go_wp2_with fail
        refine (HK.out _ HBW.out).mono ?_
        rintro e wb ⟨rfl, bb⟩
        have HB9 := Lib.hid bb
        clear bb
        go_wp2_with fail
        go_ret
        exact ⟨rfl, HB9.out⟩
      · skip
        have h4' : ¬ (N : Int) + 1 + (yn : Int) > 400 := by omega
        have hbb := HB.out
        have HTT := Lib.hid (I.text y (p : Int) HBI.out (I.tb HTB.out HBW.out) (HROW.out wr HBW.out).2 (fun k q => ⟨Nat.lt_of_lt_of_le q HBW.out.size, fun z => by have := HX.out k z; omega⟩) (by rw [HYN.out]; omega))
        obtain ⟨t1, ht1⟩ : ∃ q, bText xt y (p : Int) = q := ⟨_, rfl⟩
        have hb1 := btl_text xt y (p : Int)
        rw [ht1, HYN.out] at hb1
        rw [ht1] at HTT
        have HT1 := Lib.hid ht1
        have HBB : Hid (btl t1 ≤ 4 * N + yn + 1) := Lib.hid (by omega)
        clear ht1 hb1 hbb
        go_wp2_with fail
        refine HTT.out.mono ?_
        rintro e wq ⟨rfl, X', R', g1, g2, g3, g4⟩
        have hX2 : ∀ k, X' k → w.heap.size ≤ k := fun k q => (g3 k q).elim (HX.out k) (fun z => Nat.le_trans HBW.out.size z)
        have hOX2 : ∀ k, X' k ∨ R' k → (Value.slice s9a xw.length s9c).ownBlock ≠ some k := fun k q e => by
          have h5 := HO.out.bltT e
          rcases q with q | q
          · rcases g3 k q with z | z
            · exact HOX.out k (.inl z) e
            · omega
          · rcases g4 k q with z | z | z | z
            · exact HOX.out k (.inr z) e
            · (try simp only at z); omega
            · exact HOX.out k (.inl z) e
            · omega
        have hO2 := HO.out.stays (W' := wq) (fun k e => g2.block k (HO.out.bltT e).2 (fun z => HOX.out k (.inl z) e))
        have HB2 := Lib.hid g1
        have HW2 := Lib.hid (HBW.out.trans (g2.below HBW.out.size HX.out))
        have HX2 := Lib.hid hX2
        have HOX2 := Lib.hid hOX2
        have HO2 := Lib.hid hO2
        clear g1 g2 g3 g4 hX2 hOX2 hO2 HBI HBW HX HOX HO HTT c0
        go_wp2_with fail
        go_loopw [8, 9, 11] (fun k8 k9 k11 wr => ∃ q : Nat, q ≤ yn ∧ k11 = .int .i64 (q : Int) ∧ k8 = .bool (xi || decide (ink (y.take q) ≠ [])) ∧ Hid (BI X' R' wr b t1) ∧ Hid (Below w.heap.size w wr) ∧ Hid (∀ k, X' k ∨ R' k → k9.ownBlock ≠ some k) ∧ Hid (GOwn w.heap.size wr k9 (xw ++ ink (y.take q)))) (fun _ _ i _ => yn - (intOf i).toNat)
        case atStart => exact ⟨0, by omega, rfl, by simp [ink], HB2, HW2, HOX2, Lib.hid (by simpa [ink] using HO2.out)⟩
        case round =>
          obtain ⟨q, hq, rfl, rfl, GB, GW, GOX, GO⟩ := hrel
          obtain ⟨sa, sc, hs⟩ := (FOwn.sl gcell_len GO.out).len
          obtain ⟨sn, hsn⟩ : ∃ n, (xw ++ ink (y.take q)).length = n := ⟨_, rfl⟩
          have hsl : sn ≤ 400000 := by
            have h1 := ink_le (y.take q)
            have h2 := List.length_take_le q y
            have h3 := HB.out.2.2.1
            have h5 := HYN.out
            rw [← hsn, List.length_append]
            omega
          rw [hsn] at hs
          subst hs
          have c0 := (HROW.out wr GW.out).1
          by_cases hlq : q < yn
          · skip
            obtain ⟨z, hz⟩ : ∃ z, y[q]? = some z := ⟨y[q]'(by rw [HYN.out]; exact hlq), List.getElem?_eq_getElem _⟩
            have HNN := Lib.hid (inkL_next hz)
            obtain ⟨g2, off2, rfl, d0, d1, -⟩ := Gs.at (HROW.out wr GW.out).2.1 hz
            have hq1 : (q : Int) < (yn : Int) := by omega
            have hq0 : (0 : Int) ≤ (q : Int) := by omega
            obtain ⟨z0, z1⟩ := z
            simp only at d0 d1 HNN
            clear hz
            obtain ⟨kb, hkb⟩ : ∃ kb, (xi || decide (ink (y.take q) ≠ [])) = kb := ⟨_, rfl⟩
            have HKB := Lib.hid hkb
            rw [hkb]
            clear hkb
            by_cases h32 : z0 = 32
            · skip
              subst h32
              have HN2 : Hid (ink (y.take (q + 1)) = ink (y.take q)) := Lib.hid (by rw [HNN.out]; simp [ink])
              clear HNN
              go_wp2_with fail
              go_roundw
              case rel => exact ⟨q + 1, by omega, by go_num, by rw [HN2.out, HKB.out], GB, GW, GOX, by rw [HN2.out]; exact GO⟩
              case measure => (simp [intOf]; try omega)
            · skip
              have hqq : (z0 != 32) = true := by simpa using h32
              have HN2 : Hid (ink (y.take (q + 1)) = ink (y.take q) ++ [(z0, z1)]) := Lib.hid (by rw [HNN.out]; simp [ink, hqq])
              obtain ⟨a', c', W', hr, ho, hb, hsz, hk⟩ := gpushT GO.out GW.out.size (by rw [hsn]; omega) z0 z1
              rw [hsn] at hr ho hk
              have H2 := Lib.hid ho
              have B2 := Lib.hid (GW.out.trans hb)
              have hlx := I.lt GB.out
              have GB2 := Lib.hid (I.keep GB.out (fun k z => (hk k (hlx k (.inl z)) (GOX.out k (.inl z))).1) (fun k z => (hk k (hlx k (.inr z)) (GOX.out k (.inr z))).1) hsz)
              have GOX2 := Lib.hid (fun k z => (hk k (hlx k z) (GOX.out k z)).2)
              clear HNN ho hb hk hsn hlx hsz
              go_wp2_with fail
              go_roundw
              case rel => exact ⟨q + 1, by omega, by go_num, by rw [HN2.out]; simp, GB2, B2, GOX2, by rw [HN2.out, ← List.append_assoc]; exact H2⟩
              case measure => (simp [intOf]; try omega)
          · skip
            obtain rfl : q = yn := by omega
            have hxn : xn ≤ 400 := by have := HB.out; omega
            have hlq' : ¬ (q : Int) < (q : Int) := by omega
            have htk : y.take q = y := by rw [← HYN.out, List.take_length]
            rw [htk] at GO
            rw [htk]
            obtain ⟨kb, hkb⟩ : ∃ kb, (xi || decide (ink y ≠ [])) = kb := ⟨_, rfl⟩
            rw [hkb]
            have HKB := Lib.hid hkb
            obtain ⟨w9, hw9⟩ : ∃ u, xw ++ ink y = u := ⟨_, rfl⟩
            rw [hw9] at GO
            have HW9 := Lib.hid hw9
            have HN9 : Hid (w9.length ≤ N + 1 + q) := Lib.hid (by
              have h1 := ink_le y
              have h3 := HB.out.2.2.1
              have h5 := HYN.out
              rw [← hw9, List.length_append]
              omega)
            clear hkb hw9 htk hsl hsn
            by_cases hle : p < en
            · have hle' : (p : Int) < (en : Int) := by omega
              obtain ⟨e0, he0⟩ : ∃ z, es[p]? = some z := ⟨es[p]'(by rw [HEN.out]; exact hle), List.getElem?_eq_getElem _⟩
              obtain ⟨ge, offe, rfl, -, hce⟩ := (HE.out.keep (Kp.below GW.out (fun k q => q))).at he0
              have ce := hce 0 _ rfl
              rw [Nat.mul_one, Nat.add_zero] at ce
              clear hce he0
              cases e0 with
              | true =>
                have HND := Lib.hid (I.nd GB.out (I.tb HTB.out GW.out) (by have := HBB.out; omega))
                go_wp2_with fail
                refine HND.out.mono ?_
                rintro e we ⟨rfl, X2, R2, g1, g2, g3, g4⟩
                have hX3 : ∀ k, X2 k → w.heap.size ≤ k := fun k q => (g3 k q).elim (HX2.out k) (fun z => Nat.le_trans GW.out.size z)
                have hOX3 : ∀ k, X2 k ∨ R2 k → _ ≠ some k := fun k q e => by
                  have h5 := GO.out.bltT e
                  rcases q with q | q
                  · rcases g3 k q with z | z
                    · exact GOX.out k (.inl z) e
                    · omega
                  · rcases g4 k q with z | z | z | z
                    · exact GOX.out k (.inr z) e
                    · exact z.elim
                    · exact GOX.out k (.inl z) e
                    · omega
                have hO3 := GO.out.stays (W' := we) (fun k e => g2.block k (GO.out.bltT e).2 (fun z => GOX.out k (.inl z) e))
                have HB3 := Lib.hid g1
                have HW3 := Lib.hid (GW.out.trans (g2.below GW.out.size HX2.out))
                have HX3 := Lib.hid hX3
                have HOX3 := Lib.hid hOX3
                have HO3 := Lib.hid hO3
                clear g1 g2 g3 g4 hX3 hOX3 hO3 HND
                have hbe := btl_end t1
                have HBE : Hid (btl (bEnd t1) ≤ 4 * N + q + 4) := Lib.hid (by have := HBB.out; omega)
                clear hbe
                cases kb with
                | true =>
                  go_wp2_with fail
                  go_roundw
                  case rel => exact ⟨p + 1, N + 1 + q, xn + 1, false, bEnd t1, w9, X2, R2, by omega, by go_num, by go_num, rfl, by go_num, by omega, HB3, HW3, HX3, HOX3, HO3, Lib.hid (by have h := txOk_step HTX.out p y true; unfold txStep at h; simp only [HKB.out, HW9.out, HT1.out, if_true, Bool.false_eq_true, if_false] at h; exact h), Lib.hid (fun _ => end_text t1), Lib.hid (by have h1 := HB.out; have h2 := HBE.out; have h3 := HN9.out; exact ⟨by omega, by omega, by omega, by omega⟩)⟩
                  case measure => (simp [intOf]; try omega)
                | false =>
                  go_wp2_with fail
                  go_roundw
                  case rel => exact ⟨p + 1, N + 1 + q, xn, false, bEnd t1, w9, X2, R2, by omega, by go_num, by go_num, rfl, by go_num, by omega, HB3, HW3, HX3, HOX3, HO3, Lib.hid (by have h := txOk_step HTX.out p y true; unfold txStep at h; simp only [HKB.out, HW9.out, HT1.out, if_true, Bool.false_eq_true, if_false] at h; exact h), Lib.hid (fun _ => end_text t1), Lib.hid (by have h1 := HB.out; have h2 := HBE.out; have h3 := HN9.out; exact ⟨by omega, by omega, by omega, by omega⟩)⟩
                  case measure => (simp [intOf]; try omega)
              | false =>
                by_cases hz : p + 1 = ln
                · have hz' : ((p : Int) == (ln : Int) - 1) = true := by rw [beq_iff_eq]; omega
                  have HND := Lib.hid (I.nd GB.out (I.tb HTB.out GW.out) (by have := HBB.out; omega))
                  go_wp2_with fail
                  refine HND.out.mono ?_
                  rintro e we ⟨rfl, X2, R2, g1, g2, g3, g4⟩
                  have hX3 : ∀ k, X2 k → w.heap.size ≤ k := fun k q => (g3 k q).elim (HX2.out k) (fun z => Nat.le_trans GW.out.size z)
                  have hOX3 : ∀ k, X2 k ∨ R2 k → _ ≠ some k := fun k q e => by
                    have h5 := GO.out.bltT e
                    rcases q with q | q
                    · rcases g3 k q with z | z
                      · exact GOX.out k (.inl z) e
                      · omega
                    · rcases g4 k q with z | z | z | z
                      · exact GOX.out k (.inr z) e
                      · exact z.elim
                      · exact GOX.out k (.inl z) e
                      · omega
                  have hO3 := GO.out.stays (W' := we) (fun k e => g2.block k (GO.out.bltT e).2 (fun z => GOX.out k (.inl z) e))
                  have HB3 := Lib.hid g1
                  have HW3 := Lib.hid (GW.out.trans (g2.below GW.out.size HX2.out))
                  have HX3 := Lib.hid hX3
                  have HOX3 := Lib.hid hOX3
                  have HO3 := Lib.hid hO3
                  clear g1 g2 g3 g4 hX3 hOX3 hO3 HND
                  have hbe := btl_end t1
                  have HBE : Hid (btl (bEnd t1) ≤ 4 * N + q + 4) := Lib.hid (by have := HBB.out; omega)
                  clear hbe
                  cases kb with
                  | true =>
                    go_wp2_with fail
                    go_roundw
                    case rel => exact ⟨p + 1, N + 1 + q, xn + 1, false, bEnd t1, w9, X2, R2, by omega, by go_num, by go_num, rfl, by go_num, by omega, HB3, HW3, HX3, HOX3, HO3, Lib.hid (by have h := txOk_step HTX.out p y true; unfold txStep at h; simp only [HKB.out, HW9.out, HT1.out, if_true, Bool.false_eq_true, if_false] at h; exact h), Lib.hid (fun _ => end_text t1), Lib.hid (by have h1 := HB.out; have h2 := HBE.out; have h3 := HN9.out; exact ⟨by omega, by omega, by omega, by omega⟩)⟩
                    case measure => (simp [intOf]; try omega)
                  | false =>
                    go_wp2_with fail
                    go_roundw
                    case rel => exact ⟨p + 1, N + 1 + q, xn, false, bEnd t1, w9, X2, R2, by omega, by go_num, by go_num, rfl, by go_num, by omega, HB3, HW3, HX3, HOX3, HO3, Lib.hid (by have h := txOk_step HTX.out p y true; unfold txStep at h; simp only [HKB.out, HW9.out, HT1.out, if_true, Bool.false_eq_true, if_false] at h; exact h), Lib.hid (fun _ => end_text t1), Lib.hid (by have h1 := HB.out; have h2 := HBE.out; have h3 := HN9.out; exact ⟨by omega, by omega, by omega, by omega⟩)⟩
                    case measure => (simp [intOf]; try omega)
                · have hz' : ((p : Int) == (ln : Int) - 1) = false := by rw [beq_eq_false_iff_ne]; omega
                  go_wp2_with fail
                  go_roundw
                  case rel => exact ⟨p + 1, N + 1 + q, xn, kb, t1, w9, X', R', by omega, by go_num, rfl, rfl, by go_num, by omega, GB, GW, HX2, GOX, GO, Lib.hid (by have h := txOk_step HTX.out p y false; unfold txStep at h; simp only [HKB.out, HW9.out, HT1.out] at h; exact h), Lib.hid (fun z => by omega), Lib.hid (by have h1 := HB.out; have h2 := HBB.out; have h3 := HN9.out; exact ⟨by omega, by omega, by omega, by omega⟩)⟩
                  case measure => (simp [intOf]; try omega)
            · have hle' : ¬ (p : Int) < (en : Int) := by omega
              by_cases hz : p + 1 = ln
              · have hz' : ((p : Int) == (ln : Int) - 1) = true := by rw [beq_iff_eq]; omega
                have HND := Lib.hid (I.nd GB.out (I.tb HTB.out GW.out) (by have := HBB.out; omega))
                go_wp2_with fail
                refine HND.out.mono ?_
                rintro e we ⟨rfl, X2, R2, g1, g2, g3, g4⟩
                have hX3 : ∀ k, X2 k → w.heap.size ≤ k := fun k q => (g3 k q).elim (HX2.out k) (fun z => Nat.le_trans GW.out.size z)
                have hOX3 : ∀ k, X2 k ∨ R2 k → _ ≠ some k := fun k q e => by
                  have h5 := GO.out.bltT e
                  rcases q with q | q
                  · rcases g3 k q with z | z
                    · exact GOX.out k (.inl z) e
                    · omega
                  · rcases g4 k q with z | z | z | z
                    · exact GOX.out k (.inr z) e
                    · exact z.elim
                    · exact GOX.out k (.inl z) e
                    · omega
                have hO3 := GO.out.stays (W' := we) (fun k e => g2.block k (GO.out.bltT e).2 (fun z => GOX.out k (.inl z) e))
                have HB3 := Lib.hid g1
                have HW3 := Lib.hid (GW.out.trans (g2.below GW.out.size HX2.out))
                have HX3 := Lib.hid hX3
                have HOX3 := Lib.hid hOX3
                have HO3 := Lib.hid hO3
                clear g1 g2 g3 g4 hX3 hOX3 hO3 HND
                have hbe := btl_end t1
                have HBE : Hid (btl (bEnd t1) ≤ 4 * N + q + 4) := Lib.hid (by have := HBB.out; omega)
                clear hbe
                cases kb with
                | true =>
                  go_wp2_with fail
                  go_roundw
                  case rel => exact ⟨p + 1, N + 1 + q, xn + 1, false, bEnd t1, w9, X2, R2, by omega, by go_num, by go_num, rfl, by go_num, by omega, HB3, HW3, HX3, HOX3, HO3, Lib.hid (by have h := txOk_step HTX.out p y true; unfold txStep at h; simp only [HKB.out, HW9.out, HT1.out, if_true, Bool.false_eq_true, if_false] at h; exact h), Lib.hid (fun _ => end_text t1), Lib.hid (by have h1 := HB.out; have h2 := HBE.out; have h3 := HN9.out; exact ⟨by omega, by omega, by omega, by omega⟩)⟩
                  case measure => (simp [intOf]; try omega)
                | false =>
                  go_wp2_with fail
                  go_roundw
                  case rel => exact ⟨p + 1, N + 1 + q, xn, false, bEnd t1, w9, X2, R2, by omega, by go_num, by go_num, rfl, by go_num, by omega, HB3, HW3, HX3, HOX3, HO3, Lib.hid (by have h := txOk_step HTX.out p y true; unfold txStep at h; simp only [HKB.out, HW9.out, HT1.out, if_true, Bool.false_eq_true, if_false] at h; exact h), Lib.hid (fun _ => end_text t1), Lib.hid (by have h1 := HB.out; have h2 := HBE.out; have h3 := HN9.out; exact ⟨by omega, by omega, by omega, by omega⟩)⟩
                  case measure => (simp [intOf]; try omega)
              · have hz' : ((p : Int) == (ln : Int) - 1) = false := by rw [beq_eq_false_iff_ne]; omega
                go_wp2_with fail
                go_roundw
                case rel => exact ⟨p + 1, N + 1 + q, xn, kb, t1, w9, X', R', by omega, by go_num, rfl, rfl, by go_num, by omega, GB, GW, HX2, GOX, GO, Lib.hid (by have h := txOk_step HTX.out p y false; unfold txStep at h; simp only [HKB.out, HW9.out, HT1.out] at h; exact h), Lib.hid (fun z => by omega), Lib.hid (by have h1 := HB.out; have h2 := HBB.out; have h3 := HN9.out; exact ⟨by omega, by omega, by omega, by omega⟩)⟩
                case measure => (simp [intOf]; try omega)
    · skip
      obtain rfl : p = ln := by omega
      have hlt' : ¬ (p : Int) < (p : Int) := by omega
      obtain ⟨b1, b2, b3, b4⟩ := HB.out
      obtain ⟨hd1, hd2⟩ := HTL.out ⟨xt, xn, xi, xw⟩ HTX.out (HTE.out rfl) (by simp only; omega)
      simp only at hd1 hd2
      have hdc := I.doc HBI.out (I.tb HTB.out HBW.out) (by omega)
      have hsz : nlL (bDoc xt) ≤ 100000 := by
        have h1 := tidy_size (bAll (bEnd xt))
        have h2 := btl_all (bEnd xt)
        have h3 := btl_end xt
        have h5 : bDoc xt = tidyL (bAll (bEnd xt)) := rfl
        rw [← h5] at h1
        omega
      obtain ⟨D, hD⟩ : ∃ D, bDoc xt = D := ⟨_, rfl⟩
      obtain ⟨nm, hnm⟩ : ∃ D, xt.nm = D := ⟨_, rfl⟩
      rw [hD] at hdc hd1 hd2 hsz
      rw [hnm] at hdc
      unfold docV docL at hdc
      have HDC := Lib.hid hdc
      clear hdc hD hnm HTX HTE HB
      go_wp2_with fail
      refine HDC.out.mono ?_
      rintro e wd ⟨⟨s1, s2, s3⟩, rfl, hn1, hbd⟩
      simp only [pv] at hn1 ⊢
      clear HDC
      obtain ⟨r1, r3, hr⟩ := hn1.len
      have hs2 : s2 = xn := by injection hr with _ h2 _; rw [h2, hd1]
      subst hs2
      clear hr
      have hO1 := HO.out.keep hbd
      have hW1 := HBW.out.trans (hbd.mono HBW.out.size)
      obtain ⟨X5, hX5⟩ : ∃ Y, Y = wd.alloc (.cells #[.string ⟨nm.a.toArray⟩, .string ⟨nm.b.toArray⟩, .string ⟨nm.c.toArray⟩, .string ⟨nm.d.toArray⟩, .slice s1 s2 s3] 29) := ⟨_, rfl⟩
      have b5 : Below wd.heap.size wd X5 := by rw [hX5]; exact below_lit _ _
      have hKD : Blk X5 wd.heap.size 29 [.string ⟨nm.a.toArray⟩, .string ⟨nm.b.toArray⟩, .string ⟨nm.c.toArray⟩, .string ⟨nm.d.toArray⟩, .slice s1 s2 s3] := by rw [hX5]; exact heap_alloc_new wd _
      have c4 : X5.cell? ⟨wd.heap.size, 4, none⟩ = some (.slice s1 s2 s3) := hKD.cell 4
      have hN5 : NsS (fun k => k < X5.heap.size) X5 (.slice s1 s2 s3) D := (hn1.keep (Kp.below b5 (fun k q => q.2))).mono (fun k q => Nat.lt_of_lt_of_le q.2 b5.size)
      have HLV := Lib.hid (rleaves_any _ _ D rfl (.slice s1 s2 s3) X5 hN5 (fun k q => q) hsz)
      rw [hd2] at HLV
      have HO5 := Lib.hid (hO1.keep b5)
      have HW5 := Lib.hid (hW1.trans (b5.mono hW1.size))
      have HX5 := Lib.hid hX5
      have hxw : xw.length ≤ 400 := by omega
      have HXW := Lib.hid hxw
      clear hX5 b5 hKD hN5 hO1 hW1 hn1 hbd HO HBI HX HOX hd1 hd2 hsz hxw HBW
      go_upto_region 25 with fail
      rw [← HX5.out]
      clear HX5
      go_wp2_with fail
      refine HLV.out.mono ?_
      rintro e wl ⟨u, rfl, hu, hbl⟩
      have HSM := Lib.hid (rsameq_any xw xw u (.slice s9a xw.length s9c) wl (FOwn.sl gcell_len hu) (FOwn.sl gcell_len (HO5.out.keep hbl)) (by have := HXW.out; omega) (by have := HXW.out; omega))
      unfold QtN at HSM
      rw [decide_eq_true rfl] at HSM
      have HW6 := Lib.hid (HW5.out.trans (hbl.mono HW5.out.size))
      clear hu hbl HLV HW5 HO5 c4
      go_wp2_with fail
      refine HSM.out.mono ?_
      rintro e w6 ⟨rfl, m, hm⟩
      have HW7 := Lib.hid (show Below w.heap.size w w6 by rw [hm]; exact below_drewN HW6.out m)
      clear hm HSM HW6
      go_wp2_with fail
      refine (HK.out _ HW7.out).mono ?_
      rintro e wb ⟨rfl, bb⟩
      have HB9 := Lib.hid bb
      clear bb
      go_wp2_with fail
      go_ret
      exact ⟨rfl, HB9.out⟩
end Go.Proofs.YtpccjgoeoeehoaaDoor
