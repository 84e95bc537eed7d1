/- A macro's arguments: lines.Args. -/
import Derived.Test.YteckiifnldcjbaaDoorK4
namespace Go.Proofs.YteckiifnldcjbaaDoor
open Go.RowKit
attribute [local go_sem ↓ high] builtin_appS binop_eqlS binop_neqS

theorem uq_suf : ∀ (n : Nat) (l : List UInt8), l.length ≤ n → ∃ pre, l = pre ++ (uq l).2.1
  | _, [], _ => ⟨[], by simp [uq]⟩
  | _, [c], _ => ⟨[c], by unfold uq; split <;> simp⟩
  | 0, c :: d :: t, h => by simp at h
  | n + 1, c :: d :: t, h => by
    unfold uq
    simp only [List.length_cons] at h
    split
    · split
      · obtain ⟨pre, hp⟩ := uq_suf n t (by omega)
        exact ⟨c :: d :: pre, by simp only [List.cons_append]; rw [← hp]⟩
      · exact ⟨[c], rfl⟩
    · obtain ⟨pre, hp⟩ := uq_suf n (d :: t) (by simp only [List.length_cons]; omega)
      exact ⟨c :: pre, by simp only [List.cons_append]; rw [← hp]⟩
theorem uq_head : ∀ (n : Nat) (l : List UInt8), l.length ≤ n → (uq l).2.2 = true → (uq l).2.1.head? ≠ some 34
  | _, [], _, h => by simp [uq] at h
  | _, [c], _, h => by
    unfold uq at h ⊢
    split <;> rename_i hc
    · simp
    · rw [if_neg hc] at h; simp at h
  | 0, c :: d :: t, hl, _ => by simp at hl
  | n + 1, c :: d :: t, hl, h => by
    unfold uq at h ⊢
    simp only [List.length_cons] at hl
    by_cases hc : c = 34
    · rw [if_pos hc] at h ⊢
      by_cases hd : d = 34
      · rw [if_pos hd] at h ⊢
        exact uq_head n t (by omega) h
      · rw [if_neg hd]
        simpa using hd
    · rw [if_neg hc] at h ⊢
      exact uq_head n (d :: t) (by simp only [List.length_cons]; omega) h
theorem uq_drop {r A R : List UInt8} {F : Bool} (h1 : 1 ≤ r.length) (h : uq (r.drop 1) = (A, R, F)) : R.length < r.length ∧ r.drop (r.length - R.length) = R := by
  obtain ⟨pre, hp⟩ := uq_suf _ (r.drop 1) (Nat.le_refl _)
  rw [h] at hp
  simp only at hp
  have hl := congrArg List.length hp
  simp only [List.length_drop, List.length_append] at hl
  refine ⟨by omega, ?_⟩
  have e : r.length - R.length = 1 + pre.length := by omega
  rw [e, ← List.drop_drop, hp, List.drop_left]

/-- How long a text is. -/
def txtLen : Value → Nat
  | .string s => s.size
  | _ => 0
theorem txtLen_of (b : List UInt8) : txtLen (.string ⟨b.toArray⟩) = b.length := arr_size b

/-- Between two rounds: what is told so far, and what is left. -/
structure AAt (w : World) (N : Nat) (A : List (List UInt8)) (F : Bool) (r : List UInt8) (acc : List (List UInt8)) (v : Value) (wr : World) : Prop where
  own : SOwn w.heap.size wr v acc
  bel : Below w.heap.size w wr
  sz : w.heap.size ≤ wr.heap.size
  le : r.length ≤ N
  num : acc.length + r.length ≤ N
  res : (A, F) = (acc ++ (args r).1, (args r).2)
section
variable {w : World} {N : Nat} {A : List (List UInt8)} {F : Bool} {r : List UInt8} {acc : List (List UInt8)} {v : Value} {wr : World}
theorem AAt.start (w : World) (b : List UInt8) (h : args b = (A, F)) : AAt w b.length A F b [] (.slice none 0 0) w :=
  ⟨FOwn.nil _ _, Below.refl _ _, Nat.le_refl _, Nat.le_refl _, by simp, by simp [h]⟩
theorem AAt.keep {w' : World} (h : AAt w N A F r acc v wr) (hb : Below wr.heap.size wr w') : AAt w N A F r acc v w' :=
  ⟨h.own.keep hb, h.bel.trans (hb.mono h.sz), Nat.le_trans h.sz hb.size, h.le, h.num, h.res⟩
theorem AAt.fin (h : AAt w N A F [] acc v wr) : A = acc ∧ F = true := by
  have e := h.res
  rw [args_nil, List.append_nil] at e
  simpa using e
theorem cons_of {r : List UInt8} {c : UInt8} (h : r[0]? = some c) : r = c :: r.drop 1 := by
  cases r with
  | nil => simp at h
  | cons d t => simp at h; simp [h]
theorem AAt.blank (h : AAt w N A F r acc v wr) {c : UInt8} (hc : r[0]? = some c) (hb : blk c = true) : AAt w N A F (r.drop 1) acc v wr := by
  have e := h.res
  have h1 := h.le
  have h2 := h.num
  rw [cons_of hc, args_blank hb] at e
  exact ⟨h.own, h.bel, h.sz, by rw [List.length_drop]; omega, by rw [List.length_drop]; omega, e⟩
/-- An argument is put behind the others. -/
theorem AAt.push (h : AAt w N A F r acc v wr) (hN : N ≤ 500000) (x R : List UInt8) (hR : R.length < r.length) (hres : args r = (x :: (args R).1, (args R).2)) :
    ∃ v' w2, (appS #[v, .slice (some ⟨wr.heap.size, 0, none⟩) 1 1]).run Tryd.prog (wr.alloc (.cells #[.string ⟨x.toArray⟩] 9)) = .ok (.value v') w2 ∧ AAt w N A F R (acc ++ [x]) v' w2 ∧ Below w.heap.size wr w2 := by
  have h1 := h.num
  have h0 := h.le
  obtain ⟨v', w2, hrun, ho, hb, hz⟩ := push_own h.own h.sz x (by omega)
  refine ⟨v', w2, hrun, ⟨ho, h.bel.trans hb, Nat.le_trans h.sz hz, by omega, by simp; omega, ?_⟩, hb⟩
  rw [h.res, hres]
  simp
theorem AAt.plain (h : AAt w N A F r acc v wr) (hN : N ≤ 500000) {c : UInt8} (hc : r[0]? = some c) (hb : blk c = false) (hq : c ≠ 34) :
    ∃ v' w2, (appS #[v, .slice (some ⟨wr.heap.size, 0, none⟩) 1 1]).run Tryd.prog (wr.alloc (.cells #[.string ⟨(r.take (ubl r)).toArray⟩] 9)) = .ok (.value v') w2 ∧ AAt w N A F (r.drop (ubl r)) (acc ++ [r.take (ubl r)]) v' w2 ∧ Below w.heap.size wr w2 := by
  have e := cons_of hc
  have h1 : 1 ≤ ubl r := by rw [e]; exact ubl_pos hb
  have h2 := ubl_le r
  refine h.push hN _ _ (by rw [List.length_drop]; omega) ?_
  have := args_plain (t := r.drop 1) hb hq
  rw [← e] at this
  exact this
theorem AAt.quote (h : AAt w N A F r acc v wr) (hN : N ≤ 500000) (hc : r[0]? = some 34) {x R : List UInt8} (hu : uq (r.drop 1) = (x, R, true)) :
    ∃ v' w2, (appS #[v, .slice (some ⟨wr.heap.size, 0, none⟩) 1 1]).run Tryd.prog (wr.alloc (.cells #[.string ⟨x.toArray⟩] 9)) = .ok (.value v') w2 ∧ AAt w N A F R (acc ++ [x]) v' w2 ∧ Below w.heap.size wr w2 := by
  have e := cons_of hc
  have hl : 1 ≤ r.length := by rw [e]; simp
  refine h.push hN _ _ (uq_drop hl hu).1 ?_
  have := args_quote (t := r.drop 1) (by rw [hu])
  rw [← e, hu] at this
  exact this
theorem AAt.openq (h : AAt w N A F r acc v wr) (hN : N ≤ 500000) (hc : r[0]? = some 34) {x R : List UInt8} (hu : uq (r.drop 1) = (x, R, false)) :
    ∃ v' w2, (appS #[v, .slice (some ⟨wr.heap.size, 0, none⟩) 1 1]).run Tryd.prog (wr.alloc (.cells #[.string ⟨x.toArray⟩] 9)) = .ok (.value v') w2 ∧ (SOwn w.heap.size w2 v' A ∧ F = false ∧ Below w.heap.size w w2 ∧ w.heap.size ≤ w2.heap.size) := by
  have e := cons_of hc
  have h1 := h.num
  obtain ⟨v', w2, hrun, ho, hb, hz⟩ := push_own h.own h.sz x (by omega)
  have := args_open (t := r.drop 1) (by rw [hu])
  rw [← e, hu] at this
  have r1 := h.res
  rw [this] at r1
  simp only [Prod.mk.injEq] at r1
  refine ⟨v', w2, hrun, ?_, r1.2, h.bel.trans hb, Nat.le_trans h.sz hz⟩
  rw [r1.1]
  exact ho
end

set_option maxHeartbeats 4000000 in
theorem args_any (b : List UInt8) (w : World) (hM : Mx w) (hb : b.length ≤ 100000) :
    Calls Tryd.prog 12 #[.string ⟨b.toArray⟩] w fun e w' => ∃ v, e = .returned (.tuple #[v, .bool (args b).2]) ∧ SOwn w.heap.size w' v (args b).1 ∧ Below w.heap.size w w' ∧ w.heap.size ≤ w'.heap.size := by
  have HM := Lib.hid (fun W (h : Below w.heap.size w W) => hM.below (Nat.le_refl _) h)
  obtain ⟨A, F, hAF⟩ : ∃ A F, args b = (A, F) := ⟨_, _, rfl⟩
  have HA := Lib.hid (AAt.start w b hAF)
  rw [hAF]
  simp only
  obtain ⟨N, hN⟩ : ∃ N, b.length = N := ⟨_, rfl⟩
  rw [hN] at HA hb
  clear hM hAF hN
  go_enter Tryd.func12, Tryd.ntmps12
  go_wp2_with fail
  go_step3
  go_wp2_with fail
  go_step3
  go_wp2_with fail
  go_loopw [0, 4, 5] (fun s v o wr => ∃ (r : List UInt8) (acc : List (List UInt8)), s = .string ⟨r.toArray⟩ ∧ o = .bool true ∧ AAt w N A F r acc v wr) (fun s _ _ _ => txtLen s)
  case atStart => exact ⟨b, [], rfl, rfl, HA.out⟩
  case round =>
    obtain ⟨r, acc, rfl, rfl, ha⟩ := hrel
    rcases hr0 : r[0]? with _ | c
    · obtain rfl : r = [] := by cases r with
        | nil => rfl
        | cons c t => simp at hr0
      obtain ⟨rfl, rfl⟩ := ha.fin
      have E1 : ∀ W, (neqS (.string ⟨#[]⟩) (.string ⟨#[]⟩)).run Tryd.prog W = .ok (.bool false) W := neqS_run [] []
      have HX := Lib.hid ha
      clear ha hr0 HA
      go_wp2_with fail
      try rw [Exit.noGoto_ret]
      go_ret2
      exact ⟨_, rfl, HX.out.own, HX.out.bel, HX.out.sz⟩
    · have hrl : 1 ≤ r.length := by
        have := (List.getElem?_eq_some_iff.1 hr0).1
        omega
      have hrb := ha.le
      have E1 : ∀ W, (neqS (.string ⟨r.toArray⟩) (.string ⟨#[]⟩)).run Tryd.prog W = .ok (.bool true) W := by
        have h := neqS_run r []
        have hne : ¬ r = [] := by rintro rfl; simp at hrl
        rw [decide_eq_false hne] at h
        exact h
      have k0 : ∀ W, (Instr.index 9 (.string ⟨r.toArray⟩) (.int .i64 0)).run Tryd.prog W = .ok (.int .u8 (c.toNat : Int)) W := str_idx r 0 c hr0
      have B1 := Lib.hid (fun W => blank_any c W)
      have HX := Lib.hid ha
      have HR := Lib.hid hr0
      clear HA ha
      by_cases hbk : blk c = true
      · rw [hbk] at B1
        have k1 : ∀ W, (Instr.slice 9 (.string ⟨r.toArray⟩) (some (.int .i64 1)) none none).run Tryd.prog W = .ok (.string ⟨(r.drop 1).toArray⟩) W := str_from r 1 hrl
        have HY := Lib.hid (HX.out.blank hr0 hbk)
        have hdl : (r.drop 1).length < r.length := by rw [List.length_drop]; omega
        obtain ⟨r1, hr1⟩ : ∃ r1, r.drop 1 = r1 := ⟨_, rfl⟩
        rw [hr1] at k1 HY hdl
        clear hr1 hr0 hbk
        go_wp2_with (go_at_call 25; refine (B1.out _).mono ?_; rintro e w' ⟨rfl, rfl⟩)
        go_roundw
        case rel => exact ⟨r1, acc, rfl, rfl, HY.out⟩
        case measure => show txtLen _ < txtLen _; rw [txtLen_of, txtLen_of]; exact hdl
      · have hbk' : blk c = false := by simpa using hbk
        rw [hbk'] at B1
        clear hbk
        by_cases h34 : c = 34
        · subst h34
          have k0' : ∀ W, (Instr.index 9 (.string ⟨r.toArray⟩) (.int .i64 0)).run Tryd.prog W = .ok (.int .u8 34) W := k0
          obtain ⟨x, R, F1, hu⟩ : ∃ x R F1, uq (r.drop 1) = (x, R, F1) := ⟨_, _, _, rfl⟩
          obtain ⟨hRl, hRd⟩ := uq_drop hrl hu
          have U1 : Hid (∀ W, Mx W → Calls Tryd.prog 26 #[.string ⟨r.toArray⟩] W fun e w' => e = .returned (.tuple #[.string ⟨x.toArray⟩, .int .i64 ((r.length - R.length : Nat) : Int), .bool F1]) ∧ Below W.heap.size W w') := Lib.hid fun W hM => by
            have h := unquoted_any r W hM hrl (by omega)
            rw [hu] at h
            exact h
          have k2 := str_from r (r.length - R.length) (by omega)
          rw [hRd] at k2
          obtain ⟨n, hn⟩ : ∃ n, r.length - R.length = n := ⟨_, rfl⟩
          rw [hn] at U1 k2
          have HU := Lib.hid hu
          clear hn hRd k0 hr0 hbk' hu
          cases F1
          · go_wp2_with (go_at_call 25; refine (B1.out _).mono ?_; rintro e w' ⟨rfl, rfl⟩)
            refine (U1.out _ (HM.out _ HX.out.bel)).mono ?_
            rintro e w1 ⟨rfl, b1⟩
            obtain ⟨v', w2, k3, h3⟩ := (HX.out.keep b1).openq (by omega) HR.out HU.out
            have H3 := Lib.hid h3
            clear h3 b1 U1 HX HR HU HM
            go_wp2_with fail
            try rw [Exit.noGoto_ret]
            go_ret2
            obtain ⟨q1, q2, q3, q4⟩ := H3.out
            exact ⟨_, by rw [q2]; rfl, q1, q3, q4⟩
          · go_wp2_with (go_at_call 25; refine (B1.out _).mono ?_; rintro e w' ⟨rfl, rfl⟩)
            refine (U1.out _ (HM.out _ HX.out.bel)).mono ?_
            rintro e w1 ⟨rfl, b1⟩
            obtain ⟨v', w2, k3, h3, -⟩ := (HX.out.keep b1).quote (by omega) HR.out HU.out
            have H3 := Lib.hid h3
            have HRd : Hid (∀ d, R[0]? = some d → d ≠ 34) := Lib.hid fun d hd => by
              have h := uq_head _ (r.drop 1) (Nat.le_refl _) (by rw [HU.out])
              rw [HU.out] at h
              rintro rfl
              cases R with
              | nil => simp at hd
              | cons y t => simp at hd h; exact h hd
            clear h3 b1 U1 HX HR HU
            rcases hR0 : R[0]? with _ | d
            · obtain rfl : R = [] := by cases R with
                | nil => rfl
                | cons c t => simp at hR0
              have E2 : ∀ W, (eqlS (.string ⟨#[]⟩) (.string ⟨#[]⟩)).run Tryd.prog W = .ok (.bool true) W := eqlS_run [] []
              clear hR0 HM HRd
              go_wp2_with fail
              go_roundw
              case rel => exact ⟨[], acc ++ [x], rfl, rfl, H3.out⟩
              case measure => show txtLen _ < txtLen _; rw [txtLen_of, txtLen_of]; exact hRl
            · have hRl1 : 1 ≤ R.length := by
                have := (List.getElem?_eq_some_iff.1 hR0).1
                omega
              have E2 : ∀ W, (eqlS (.string ⟨R.toArray⟩) (.string ⟨#[]⟩)).run Tryd.prog W = .ok (.bool false) W := by
                have h := eqlS_run R []
                have hne : ¬ R = [] := by rintro rfl; simp at hRl1
                rw [decide_eq_false hne] at h
                exact h
              have k4 : ∀ W, (Instr.index 9 (.string ⟨R.toArray⟩) (.int .i64 0)).run Tryd.prog W = .ok (.int .u8 (d.toNat : Int)) W := str_idx R 0 d hR0
              have B2 := Lib.hid (fun W => blank_any d W)
              by_cases hbd : blk d = true
              · rw [hbd] at B2
                clear hbd hR0 HM HRd
                go_wp2_with (go_at_call 25; refine (B2.out _).mono ?_; rintro e w' ⟨rfl, rfl⟩)
                go_roundw
                case rel => exact ⟨R, acc ++ [x], rfl, rfl, H3.out⟩
                case measure => show txtLen _ < txtLen _; rw [txtLen_of, txtLen_of]; exact hRl
              · have hbd' : blk d = false := by simpa using hbd
                rw [hbd'] at B2
                have N1 := Lib.hid (fun W => unblank_any R W (by omega))
                have hub := ubl_le R
                have hub1 : 1 ≤ ubl R := by rw [cons_of hR0]; exact ubl_pos hbd'
                have k5 := str_to R (ubl R) hub
                have k6 := str_from R (ubl R) hub
                obtain ⟨v2, w3, k7, h7, -⟩ := H3.out.plain (by omega) hR0 hbd' (HRd.out d hR0)
                have H7 := Lib.hid h7
                have hdl : (R.drop (ubl R)).length < r.length := by rw [List.length_drop]; omega
                obtain ⟨u, hu⟩ : ∃ u, ubl R = u := ⟨_, rfl⟩
                rw [hu] at N1 k5 k6 k7 H7 hdl
                obtain ⟨tk, htk⟩ : ∃ t, R.take u = t := ⟨_, rfl⟩
                obtain ⟨dk, hdk⟩ : ∃ t, R.drop u = t := ⟨_, rfl⟩
                rw [htk] at k5 k7 H7
                rw [hdk] at k6 H7 hdl
                clear hbd hbd' hR0 HM HRd h7 hub hub1 hu htk hdk H3
                go_wp2_with (first
                  | (go_at_call 25; refine (B2.out _).mono ?_; rintro e w' ⟨rfl, rfl⟩)
                  | (go_at_call 27; refine (N1.out _).mono ?_; rintro e w' ⟨rfl, rfl⟩))
                go_roundw
                case rel => exact ⟨dk, acc ++ [x] ++ [tk], rfl, rfl, H7.out⟩
                case measure => show txtLen _ < txtLen _; rw [txtLen_of, txtLen_of]; exact hdl
        · have hne : ((c.toNat : Int) == 34) = false := byte_ne h34
          have N1 := Lib.hid (fun W => unblank_any r W (by omega))
          have hub := ubl_le r
          have hub1 : 1 ≤ ubl r := by rw [cons_of hr0]; exact ubl_pos hbk'
          have k5 := str_to r (ubl r) hub
          have k6 := str_from r (ubl r) hub
          obtain ⟨v2, w3, k7, h7, -⟩ := HX.out.plain (by omega) hr0 hbk' h34
          have H7 := Lib.hid h7
          have hdl : (r.drop (ubl r)).length < r.length := by rw [List.length_drop]; omega
          obtain ⟨u, hu⟩ : ∃ u, ubl r = u := ⟨_, rfl⟩
          rw [hu] at N1 k5 k6 k7 H7 hdl
          obtain ⟨tk, htk⟩ : ∃ t, r.take u = t := ⟨_, rfl⟩
          obtain ⟨dk, hdk⟩ : ∃ t, r.drop u = t := ⟨_, rfl⟩
          rw [htk] at k5 k7 H7
          rw [hdk] at k6 H7 hdl
          clear hbk' hr0 HM h7 hub hub1 hu htk hdk h34 HX HR
          go_wp2_with (first
            | (go_at_call 25; refine (B1.out _).mono ?_; rintro e w' ⟨rfl, rfl⟩)
            | (go_at_call 27; refine (N1.out _).mono ?_; rintro e w' ⟨rfl, rfl⟩))
          go_roundw
          case rel => exact ⟨dk, acc ++ [tk], rfl, rfl, H7.out⟩
          case measure => show txtLen _ < txtLen _; rw [txtLen_of, txtLen_of]; exact hdl
end Go.Proofs.YteckiifnldcjbaaDoor
