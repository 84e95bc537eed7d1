/- The document's own escape, whatever it is; its Scan. -/
import Derived.Test.YtgfmpndojjopnaaEn
import Derived.Test.YtgfmpndojjopnaaEe
namespace Go.Proofs.Ytgfmpndojjopnaa
open Go.RowKit
attribute [local go_sem ↓ high] builtin_appT builtin_appDg
section
variable {base : Nat} {w : World} {lv : Value} {L : List Int} {tv dv : Value} {T : List Tok} {D : List Dg} {W : World}
theorem resc_any (p : Nat) (w : World) (hs : Sl .i32 w lv L) (ht : TOwn base w tv T) (hd : DOwn base w dv D) (hb : base ≤ w.heap.size) (hp : p < L.length) (hL : L.length ≤ 2000) (hTl : T.length ≤ 2000) (hDl : D.length ≤ 2000) (hzr : ∀ z ∈ L, -2147483648 ≤ z ∧ z ≤ 2147483647) {t : List Tok} {d : List Int} {k : Nat} (he : escL (L.drop (p + 1)) = (t, d, k)) :
    Calls Try.prog 32 #[.agg #[tv, dv], lv, .int .i64 ((p + 1 : Nat) : Int)] w (REnd base w tv dv (T ++ t) (D ++ dgs p d) (p + k)) := by
  cases hR : L[p + 1]? with
  | none =>
    have hlen : p + 1 = L.length := by
      have := List.getElem?_eq_none_iff.1 hR
      omega
    rw [List.drop_eq_nil_of_le (by omega)] at he
    cases he
    have := resc_end (p + 1) w hs ht hd hb hlen (by omega) hL hDl
    rw [List.append_nil]
    exact this
  | some c =>
    have hlt := (List.getElem?_eq_some_iff.1 hR).1
    have hql : (L.drop (p + 1 + 1)).length = L.length - (p + 2) := by rw [List.length_drop]
    have hdc := drop_cons hR
    rw [hdc, escL_cons, hql] at he
    have e1 : p + (L.length - (p + 2) + 2) = L.length := by omega
    cases hsim : simC c with
    | some x =>
      rw [hsim] at he
      cases he
      rw [dgs_nil]
      exact resc_char (p + 1) c x w hs ht hd hb hR hL hTl hsim
    | none =>
      rw [hsim] at he
      simp only at he
      by_cases a1 : c = 38 ∨ c = 37 ∨ c = 47 ∨ c = 44 ∨ c = 58
      · rw [if_pos a1] at he
        cases he
        rw [dgs_nil, List.append_nil]
        exact resc_nothing (p + 1) c w hs ht hd hb hR (by omega) hL hTl hDl hsim a1
      · rw [if_neg a1] at he
        by_cases a2 : c = 34
        · rw [if_pos a2] at he
          cases he
          rw [dgs_nil, List.append_nil, e1]
          exact resc_comment (p + 1) c w hs ht hd hb hR (by omega) hL hTl hDl hsim a2
        · rw [if_neg a2] at he
          by_cases a3 : c = 40 ∨ c = 91
          · rw [if_pos a3, ← hdc] at he
            cases hn : nameL (L.drop (p + 1)) with
            | none =>
              rw [hn] at he
              cases he
              rw [List.append_nil, e1]
              exact resc_named_none (p + 1) c w hs ht hd hb hR (by omega) hL hTl hDl hsim a3 hzr hn
            | some nk =>
              obtain ⟨n, k'⟩ := nk
              rw [hn] at he
              simp only at he
              cases hm : nmOf (enc n) with
              | some x =>
                rw [hm] at he
                cases he
                rw [dgs_nil, show p + (k' + 1) = p + 1 + k' by omega]
                exact resc_named_good (p + 1) c w hs ht hd hb hR (by omega) hL hTl hDl hsim a3 hzr hn hm
              | none =>
                rw [hm] at he
                cases he
                rw [List.append_nil, show p + (k' + 1) = p + 1 + k' by omega]
                exact resc_named_bad (p + 1) c w hs ht hd hb hR (by omega) hL hTl hDl hsim a3 hzr hn hm
          · rw [if_neg a3] at he
            by_cases a4 : c = 102
            · rw [if_pos a4] at he
              cases hn : nameL (L.drop (p + 1 + 1)) with
              | none =>
                rw [hn] at he
                cases he
                rw [List.append_nil, e1]
                exact resc_font_none (p + 1) c w hs ht hd hb hR (by omega) hL hTl hDl hsim a4 hzr hn
              | some nk =>
                obtain ⟨n, k'⟩ := nk
                rw [hn] at he
                simp only at he
                cases hm : ftOf (enc n) with
                | some x =>
                  rw [hm] at he
                  cases he
                  rw [dgs_nil, show p + (k' + 2) = p + 1 + 1 + k' by omega]
                  exact resc_font_good (p + 1) c w hs ht hd hb hR (by omega) hL hTl hDl hsim a4 hzr hn hm
                | none =>
                  rw [hm] at he
                  cases he
                  rw [List.append_nil, show p + (k' + 2) = p + 1 + 1 + k' by omega]
                  exact resc_font_bad (p + 1) c w hs ht hd hb hR (by omega) hL hTl hDl hsim a4 hzr hn hm
            · rw [if_neg a4] at he
              cases he
              rw [List.append_nil]
              exact resc_other (p + 1) c w hs ht hd hb hR (by omega) hL hTl hDl hsim ⟨fun e => a1 (by simp [e]), fun e => a1 (by simp [e]), fun e => a1 (by simp [e]), fun e => a1 (by simp [e]), fun e => a1 (by simp [e]), a2, fun e => a3 (.inl e), fun e => a3 (.inr e), a4⟩

/-- The world while its Scan runs. -/
structure Sx (w1 : World) (B : Nat) (lv : Value) (L : List Int) (W : World) (T : List Tok) (D : List Dg) (tv dv : Value) : Prop where
  hB : w1.heap.size = B
  s1 : Sl .i32 w1 lv L
  bel : Below B w1 W
  b : Blk W B 67 [tv, dv]
  t : TOwn (B + 1) W tv T
  d : DOwn (B + 1) W dv D
variable {w1 : World} {B : Nat}
theorem Sx.lt (h : Sx w1 B lv L W T D tv dv) : B < W.heap.size := (Array.getElem?_eq_some_iff.1 h.b).1
theorem Sx.text (h : Sx w1 B lv L W T D tv dv) : Sl .i32 W lv L := h.s1.below (by rw [h.hB]; exact h.bel)
theorem Sx.keep {W' : World} (h : Sx w1 B lv L W T D tv dv) (hb : Below W.heap.size W W') : Sx w1 B lv L W' T D tv dv :=
  ⟨h.hB, h.s1, h.bel.trans (hb.mono (Nat.le_of_lt h.lt)), h.b.below hb, h.t.keep hb, h.d.keep hb⟩
theorem Sx.store (h : Sx w1 B lv L W T D tv dv) {W' : World} {tv' dv' : Value} {T' : List Tok} {D' : List Dg} (hb : Below (B + 1) W W') (ht : TOwn (B + 1) W' tv' T') (hd : DOwn (B + 1) W' dv' D') :
    W'.cell? ⟨B, 0, none⟩ = some tv ∧ W'.cell? ⟨B, 1, none⟩ = some dv ∧ W'.frozen? ⟨B, 0, none⟩ = false ∧ W'.frozen? ⟨B, 1, none⟩ = false ∧ Sx w1 B lv L ((W'.setCell ⟨B, 0, none⟩ tv').setCell ⟨B, 1, none⟩ dv') T' D' tv' dv' := by
  have b' : Blk W' B 67 [tv, dv] := (hb.block B (by omega)).trans h.b
  refine ⟨b'.cell 0, b'.cell 1, b'.frozen (by simp), b'.frozen (by simp), h.hB, h.s1, (((h.bel.trans (hb.mono (by omega))).setCell (Nat.le_refl _) _).setCell (Nat.le_refl _) _), ?_, ?_, ?_⟩
  · exact (b'.set 0 tv').set 1 dv'
  · exact ownsRow_setCell_below (ownsRow_setCell_below ht (by simp) _) (by simp) _
  · exact ownsRow_setCell_below (ownsRow_setCell_below hd (by simp) _) (by simp) _
end
end Go.Proofs.Ytgfmpndojjopnaa
