/- lines.Args of a text however long, whose arguments are short. -/
import Derived.Test.YtigdfknmmjafkaaDoorKN
import Derived.Test.YtigdfknmmjafkaaDoorK5
namespace Go.Proofs.YtigdfknmmjafkaaDoor
open Go.RowKit
attribute [local go_sem ↓ high] builtin_appS binop_eqlS binop_neqS

set_option maxHeartbeats 400000 in
theorem slashed_big (b : List UInt8) (w : World) (hb : b.length ≤ 4000000000000000000) : Calls Tryd.prog 46 #[.string ⟨b.toArray⟩] w fun e w' => e = .returned (.bool (sl b)) ∧ w = w' := by
  have H := trimRight_one b 92 (by decide) w (by omega)
  have h1 := trimR_sl b
  have h2 := trimR_le b
  have hz := arr_size b
  have hz2 := arr_size (Lib.trimRightB b 92)
  generalize Lib.trimRightB b 92 = t at H h1 h2 hz2
  have h3 : sl b = decide (((b.length : Int) - (t.length : Int)) % 2 = 1) := by
    cases hs : sl b
    · rw [hs] at h1
      simp at h1
      symm
      rw [decide_eq_false_iff_not]
      omega
    · rw [hs] at h1
      simp at h1
      symm
      rw [decide_eq_true_iff]
      omega
  generalize sl b = q at h3
  have h4 : (0 : Int) ≤ (b.length : Int) - (t.length : Int) := by omega
  have HH := Lib.hid H
  have H3 := Lib.hid h3
  clear H h1 h2 h3
  go_enter Tryd.func46, Tryd.ntmps46
  go_wp2_with (go_at_call 61; refine HH.out.mono ?_; rintro e w' ⟨rfl, rfl⟩)
  go_ret
  refine ⟨ret_bool ?_, rfl⟩
  rw [H3.out]
  apply bool_of_iff
  simp
  try omega

set_option maxHeartbeats 1000000 in
theorem unblank_big (b : List UInt8) (w : World) (hb : b.length ≤ 4000000000000000000) : Calls Tryd.prog 27 #[.string ⟨b.toArray⟩] w fun e w' => e = .returned (.int .i64 (ubl b : Int)) ∧ w = w' := by
  have hsz := arr_size b
  have HI := Lib.hid (fun j x (h : b[j]? = some x) => str_idx b j x h)
  have HT := Lib.hid (fun j (h : j ≤ b.length) => str_to b j h)
  have HN := Lib.hid (fun (h : ∀ i, i < b.length → isB b i = false) => ubl_none h)
  have HS := Lib.hid (fun i hi h hb => ubl_some (l := b) (i := i) hi h hb)
  obtain ⟨U, hU⟩ : ∃ U, ubl b = U := ⟨_, rfl⟩
  rw [hU] at HN HS ⊢
  clear hU
  go_enter Tryd.func27, Tryd.ntmps27
  go_wp2_with fail
  go_loopw [6] (fun n wr => ∃ j : Nat, wr = w ∧ n = .int .i64 j ∧ j ≤ b.length ∧ ∀ k, k < j → isB b k = false) (fun n _ => b.length - (intOf n).toNat)
  case atStart => exact ⟨0, rfl, rfl, by omega, fun k hk => by omega⟩
  case round =>
    obtain ⟨j, rfl, rfl, hj, hbf⟩ := hrel
    have HBF := Lib.hid hbf
    clear hbf
    by_cases hlt : j < b.length
    · obtain ⟨x, hx⟩ : ∃ x, b[j]? = some x := ⟨b[j], List.getElem?_eq_getElem hlt⟩
      have k1 := HI.out j x hx
      have k2 := HT.out j hj
      have B1 := Lib.hid (fun W => blank_any x W)
      have S1 := Lib.hid (fun W => slashed_big (b.take j) W (by rw [List.length_take]; omega))
      have E := Lib.hid (isB_at hx)
      have hlt' : (j : Int) < (b.length : Int) := by omega
      obtain ⟨p, hp⟩ : ∃ p, blk x = p := ⟨_, rfl⟩
      rw [hp] at B1 E
      obtain ⟨q, hq⟩ : ∃ q, sl (b.take j) = q := ⟨_, rfl⟩
      rw [hq] at S1 E
      generalize b.take j = tk at k2 S1 hq
      clear hp hq hx
      cases p
      · go_wp2_with (go_at_call 25; refine (B1.out _).mono ?_; rintro e w' ⟨rfl, rfl⟩)
        go_roundw
        case rel => exact ⟨j + 1, by first | rfl | trivial, by go_num, by omega, upto_succ HBF.out E.out⟩
        case measure => simp [intOf]; omega
      · cases q
        · go_wp2_with (first
            | (go_at_call 25; refine (B1.out _).mono ?_; rintro e w' ⟨rfl, rfl⟩)
            | (go_at_call 46; refine (S1.out _).mono ?_; rintro e w' ⟨rfl, rfl⟩))
          go_ret
          exact ⟨by rw [HS.out j hlt E.out HBF.out]; rfl, rfl⟩
        · go_wp2_with (first
            | (go_at_call 25; refine (B1.out _).mono ?_; rintro e w' ⟨rfl, rfl⟩)
            | (go_at_call 46; refine (S1.out _).mono ?_; rintro e w' ⟨rfl, rfl⟩))
          go_roundw
          case rel => exact ⟨j + 1, by first | rfl | trivial, by go_num, by omega, upto_succ HBF.out E.out⟩
          case measure => simp [intOf]; omega
    · obtain rfl : j = b.length := by omega
      have e := HN.out HBF.out
      subst e
      go_wp2_with fail
      go_ret
      exact ⟨rfl, rfl⟩

set_option maxHeartbeats 2000000 in
theorem unquoted_big (b : List UInt8) (w : World) (hM : Mx w) (hb1 : 1 ≤ b.length) (hb : b.length ≤ 4000000000000000000) (hA : (uq (b.drop 1)).1.length ≤ 1000000) :
    Calls Tryd.prog 26 #[.string ⟨b.toArray⟩] w fun e w' => e = .returned (.tuple #[.string ⟨(uq (b.drop 1)).1.toArray⟩, .int .i64 ((b.length - (uq (b.drop 1)).2.1.length : Nat) : Int), .bool (uq (b.drop 1)).2.2]) ∧ Below w.heap.size w w' := by
  have hsz := arr_size b
  have HI := Lib.hid (fun j x (h : b[j]? = some x) => str_idx b j x h)
  have HF := Lib.hid (fun j (h : j ≤ b.length) => str_from b j h)
  have HD := Lib.hid (fun i j h1 h2 => str_mid b i j h1 h2)
  obtain ⟨A, R, F, hU⟩ : ∃ A R F, uq (b.drop 1) = (A, R, F) := ⟨_, _, _, rfl⟩
  have HQ := Lib.hid (QAt.start hb1 hU)
  rw [hU] at hA ⊢
  simp only at hA ⊢
  obtain ⟨N, hN⟩ : ∃ N, b.length - R.length = N := ⟨_, rfl⟩
  rw [hN]
  have HN := Lib.hid hN
  clear hU hN
  go_enter Tryd.func26, Tryd.ntmps26
  go_wp2_with fail
  go_loopw [5] (fun n wr => ∃ (j : Nat) (P : List UInt8), wr = w ∧ n = .int .i64 j ∧ QAt b A R F j P) (fun n _ => b.length - (intOf n).toNat)
  case atStart => exact ⟨1, [], rfl, rfl, HQ.out⟩
  case round =>
    obtain ⟨j, P, rfl, rfl, hq⟩ := hrel
    have Q := Lib.hid hq
    have hj := hq.le
    have hP := hq.lenP
    have hj1 : 1 ≤ j := by have := hq.at'; omega
    clear hq HQ
    by_cases hlt : j < b.length
    · obtain ⟨x, hx⟩ : ∃ x, b[j]? = some x := ⟨b[j], List.getElem?_eq_getElem hlt⟩
      have k1 := HI.out j x hx
      have hlt' : (j : Int) < (b.length : Int) := by omega
      by_cases h34 : x = 34
      · subst h34
        have k1' : ∀ W, (Instr.index 9 (.string ⟨b.toArray⟩) (.int .i64 (j : Int))).run Tryd.prog W = .ok (.int .u8 34) W := k1
        have k2 := HF.out j hj
        have P1 := Lib.hid (fun W => hasPrefix_any (b.drop j) [34, 34] W)
        cases hpf : Lib.hasPrefix (b.drop j) [34, 34]
        · rw [hpf] at P1
          obtain ⟨rfl, rfl, rfl⟩ := Q.out.ends hx hpf
          have k3 := HD.out 1 j hj1 hj
          rw [Q.out.piece] at k3
          have k3' : ∀ W, (Instr.slice 9 (.string ⟨b.toArray⟩) (some (.int .i64 1)) (some (.int .i64 (j : Int))) none).run Tryd.prog W = .ok (.string ⟨(dbl A).toArray⟩) W := k3
          have S1 := Lib.hid (fun W hM => single_any A W hM (by omega))
          obtain rfl : N = j + 1 := by rw [← HN.out, List.length_drop]; omega
          have HM := Lib.hid hM
          generalize b.drop j = bj at k2 P1 hpf
          clear hpf hx k1 k3 hM HN
          go_wp2_with (first
            | (go_at_call 44; refine (P1.out _).mono ?_; rintro e w' ⟨rfl, rfl⟩)
            | (go_at_call 45; refine (S1.out _ HM.out).mono ?_; rintro e w' ⟨rfl, b1⟩))
          go_ret3
          exact ⟨by go_num, b1⟩
        · rw [hpf] at P1
          have Q2 := Lib.hid (Q.out.two hpf)
          have hj2 := Q2.out.le
          generalize b.drop j = bj at k2 P1 hpf
          clear hpf hx k1
          go_wp2_with (go_at_call 44; refine (P1.out _).mono ?_; rintro e w' ⟨rfl, rfl⟩)
          go_roundw
          case rel => exact ⟨j + 2, P ++ [34], by first | rfl | trivial, by go_num, Q2.out⟩
          case measure => simp [intOf]; omega
      · have hne : ((x.toNat : Int) == 34) = false := byte_ne h34
        have hne' : ((x.toNat : Int) != 34) = true := by rw [bne, hne]; rfl
        have Q2 := Lib.hid (Q.out.next hx h34)
        clear h34 hx hne
        go_wp2_with fail
        go_roundw
        case rel => exact ⟨j + 1, P ++ [x], by first | rfl | trivial, by go_num, Q2.out⟩
        case measure => simp [intOf]; omega
    · obtain rfl : j = b.length := by omega
      obtain ⟨rfl, rfl, rfl, hd⟩ := Q.out.open
      have k2 := HF.out 1 (by omega)
      rw [hd] at k2
      have k2' : ∀ W, (Instr.slice 9 (.string ⟨b.toArray⟩) (some (.int .i64 1)) none none).run Tryd.prog W = .ok (.string ⟨(dbl A).toArray⟩) W := k2
      have S1 := Lib.hid (fun W hM => single_any A W hM (by omega))
      have HM := Lib.hid hM
      obtain rfl : N = b.length := by rw [← HN.out]; simp
      clear hd k2 hM HN
      go_wp2_with (go_at_call 45; refine (S1.out _ HM.out).mono ?_; rintro e w' ⟨rfl, b1⟩)
      go_ret3
      exact ⟨rfl, b1⟩

theorem fappB {α : Type} {n e : Nat} {f : α → List Value} {P : Program} {W : World} {base t bytes : Nat} {i0 : TypeInfo} {z : Value} (hf : ∀ x, (f x).length = n) (h1 : ∀ x, ∀ u ∈ f x, u.oneCell' = true) (hn : 0 < n)
    (ht : P.underlying t = some (.slice e)) (hi : P.info? e = some i0) (hz0 : i0.zero = some z) (hz1 : i0.size = n) (hz2 : i0.bytes = bytes) (hzs : z.cells.size = n)
    {x : Value} {l m : List α} (h : FOwn e n f base W x l) {a : Addr} {cap : Nat} (hu : Fs n f W (.slice (some a) m.length cap) m) (hb : base ≤ W.heap.size) (hd : l.length + m.length ≤ 4000000000000000000) (hd2 : (l.length + m.length) * bytes ≤ 140737488355328) :
    ∃ x' w', (Builtin.append_ #[t, t] t #[x, .slice (some a) m.length cap]).run P W = .ok x' w' ∧ FOwn e n f base w' x' (l ++ m) ∧ W.grownBy w' x.ownBlock := by
  obtain ⟨a', cap', hv, hcap, hc⟩ := hu
  injection hv with e1 e2 e3
  subst e1 e3
  have hcells : ∀ j v, (flatV f m)[j]? = some v → W.cell? (a.add j) = some v := by
    intro j v hj
    obtain ⟨q, i, y, rfl, hq, hi⟩ := flatV_inv hf m j v hj
    obtain ⟨g, off, hg, h0⟩ := hc q y hq
    obtain rfl := Option.some.inj hg
    rw [Addr.add_lit]
    exact h0 i v hi
  obtain ⟨x', w', hr, ho, hg, -, -⟩ := run_append_own_at (P := P) W base t t e i0 z n bytes ht hi hz0 hz1 hz2 hzs hn x l.length (flatV f l) h a m.length cap (flatV f m) (flatV_len hf m) hcells (fun u hu => by
    simp only [flatV, List.mem_flatten, List.mem_map] at hu
    obtain ⟨ys, ⟨y, _, rfl⟩, hy⟩ := hu
    exact h1 y u hy) (by unfold maxLen; omega) hd2 hb
  exact ⟨x', w', hr, by unfold FOwn; rw [flatV_app, List.length_append]; exact ho, hg⟩
theorem push_ownB {base : Nat} {W : World} {v : Value} {acc : List (List UInt8)} (h : SOwn base W v acc) (hb : base ≤ W.heap.size) (x : List UInt8) (hd : acc.length ≤ 8796093022000) :
    ∃ v' w2, (appS #[v, .slice (some ⟨W.heap.size, 0, none⟩) 1 1]).run Tryd.prog (W.alloc (.cells #[.string ⟨x.toArray⟩] 9)) = .ok (.value v') w2 ∧ SOwn base w2 v' (acc ++ [x]) ∧ Below base W w2 ∧ W.heap.size ≤ w2.heap.size := by
  have b1 := below_lit W (.cells #[.string ⟨x.toArray⟩] 9)
  have h1 := h.keep b1
  obtain ⟨i0, hi, hz0, hz1, hz2⟩ := info_parts infoS
  obtain ⟨v', w2, hr, ho, hg⟩ := fappB scell_len scell_one (by decide) Tryd.underlying23 hi hz0 hz1 hz2 rfl h1 (fs_lit scell_len W 9 [x]) (by simp; omega) (by simp; omega) (by simp; omega)
  have hz := hg.size
  refine ⟨v', w2, ?_, ho, (b1.mono hb).grown hg (by simp; omega) (fun j e => (h1.ty e).1), ?_⟩
  · unfold appS
    simp only [Sem.run_bind, Sem.run_pure, Result.andThen_ok]
    have hr' := hr
    simp only [List.length_cons, List.length_nil, Nat.zero_add] at hr'
    rw [hr']
    rfl
  simp at hz
  omega
/-- Between two rounds: what is told so far, and what is left. -/
structure BAt (w : World) (N : Nat) (A : List (List UInt8)) (F : Bool) (r : List UInt8) (acc : List (List UInt8)) (v : Value) (wr : World) : Prop where
  own : SOwn w.heap.size wr v acc
  bel : Below w.heap.size w wr
  sz : w.heap.size ≤ wr.heap.size
  le : r.length ≤ N
  num : A.length ≤ 8796093021952 ∧ ∀ x ∈ A, x.length ≤ 1000000
  res : (A, F) = (acc ++ (args r).1, (args r).2)
section
variable {w : World} {N : Nat} {A : List (List UInt8)} {F : Bool} {r : List UInt8} {acc : List (List UInt8)} {v : Value} {wr : World}
theorem BAt.start (w : World) (b : List UInt8) (h : args b = (A, F)) (hn : A.length ≤ 8796093021952 ∧ ∀ x ∈ A, x.length ≤ 1000000) : BAt w b.length A F b [] (.slice none 0 0) w :=
  ⟨FOwn.nil _ _, Below.refl _ _, Nat.le_refl _, Nat.le_refl _, hn, by simp [h]⟩
theorem BAt.keep {w' : World} (h : BAt w N A F r acc v wr) (hb : Below wr.heap.size wr w') : BAt w N A F r acc v w' :=
  ⟨h.own.keep hb, h.bel.trans (hb.mono h.sz), Nat.le_trans h.sz hb.size, h.le, h.num, h.res⟩
theorem BAt.fin (h : BAt w N A F [] acc v wr) : A = acc ∧ F = true := by
  have e := h.res
  rw [args_nil, List.append_nil] at e
  simpa using e
theorem BAt.room (h : BAt w N A F r acc v wr) {x R : List UInt8} (hres : (args r).1 = x :: (args R).1) : acc.length + 1 ≤ A.length ∧ x ∈ A := by
  have e := congrArg Prod.fst h.res
  simp only at e
  rw [hres] at e
  rw [e]
  refine ⟨by simp, by simp⟩
theorem BAt.blank (h : BAt w N A F r acc v wr) {c : UInt8} (hc : r[0]? = some c) (hb : blk c = true) : BAt w N A F (r.drop 1) acc v wr := by
  have e := h.res
  have h1 := h.le
  have h2 := h.num
  rw [cons_of hc, args_blank hb] at e
  exact ⟨h.own, h.bel, h.sz, by rw [List.length_drop]; omega, h2, e⟩
/-- An argument is put behind the others. -/
theorem BAt.push (h : BAt w N A F r acc v wr) (hN : N ≤ 4000000000000000000) (x R : List UInt8) (hR : R.length < r.length) (hres : args r = (x :: (args R).1, (args R).2)) :
    ∃ v' w2, (appS #[v, .slice (some ⟨wr.heap.size, 0, none⟩) 1 1]).run Tryd.prog (wr.alloc (.cells #[.string ⟨x.toArray⟩] 9)) = .ok (.value v') w2 ∧ BAt w N A F R (acc ++ [x]) v' w2 ∧ Below w.heap.size wr w2 := by
  have h1 := h.num
  have h0 := h.le
  have hroom := (h.room (congrArg Prod.fst hres)).1
  have h2 := h1.1
  obtain ⟨v', w2, hrun, ho, hb, hz⟩ := push_ownB h.own h.sz x (by omega)
  refine ⟨v', w2, hrun, ⟨ho, h.bel.trans hb, Nat.le_trans h.sz hz, by omega, h1, ?_⟩, hb⟩
  rw [h.res, hres]
  simp
theorem BAt.plain (h : BAt w N A F r acc v wr) (hN : N ≤ 4000000000000000000) {c : UInt8} (hc : r[0]? = some c) (hb : blk c = false) (hq : c ≠ 34) :
    ∃ v' w2, (appS #[v, .slice (some ⟨wr.heap.size, 0, none⟩) 1 1]).run Tryd.prog (wr.alloc (.cells #[.string ⟨(r.take (ubl r)).toArray⟩] 9)) = .ok (.value v') w2 ∧ BAt w N A F (r.drop (ubl r)) (acc ++ [r.take (ubl r)]) v' w2 ∧ Below w.heap.size wr w2 := by
  have e := cons_of hc
  have h1 : 1 ≤ ubl r := by rw [e]; exact ubl_pos hb
  have h2 := ubl_le r
  refine h.push hN _ _ (by rw [List.length_drop]; omega) ?_
  have := args_plain (t := r.drop 1) hb hq
  rw [← e] at this
  exact this
theorem BAt.quote (h : BAt w N A F r acc v wr) (hN : N ≤ 4000000000000000000) (hc : r[0]? = some 34) {x R : List UInt8} (hu : uq (r.drop 1) = (x, R, true)) :
    ∃ v' w2, (appS #[v, .slice (some ⟨wr.heap.size, 0, none⟩) 1 1]).run Tryd.prog (wr.alloc (.cells #[.string ⟨x.toArray⟩] 9)) = .ok (.value v') w2 ∧ BAt w N A F R (acc ++ [x]) v' w2 ∧ Below w.heap.size wr w2 := by
  have e := cons_of hc
  have hl : 1 ≤ r.length := by rw [e]; simp
  refine h.push hN _ _ (uq_drop hl hu).1 ?_
  have := args_quote (t := r.drop 1) (by rw [hu])
  rw [← e, hu] at this
  exact this
theorem BAt.openq (h : BAt w N A F r acc v wr) (hN : N ≤ 4000000000000000000) (hc : r[0]? = some 34) {x R : List UInt8} (hu : uq (r.drop 1) = (x, R, false)) :
    ∃ v' w2, (appS #[v, .slice (some ⟨wr.heap.size, 0, none⟩) 1 1]).run Tryd.prog (wr.alloc (.cells #[.string ⟨x.toArray⟩] 9)) = .ok (.value v') w2 ∧ (SOwn w.heap.size w2 v' A ∧ F = false ∧ Below w.heap.size w w2 ∧ w.heap.size ≤ w2.heap.size) := by
  have e := cons_of hc
  have h1 := h.num
  have hroom : acc.length + 1 ≤ A.length := by
    have ho := args_open (t := r.drop 1) (by rw [hu])
    rw [← e] at ho
    have e2 := congrArg Prod.fst h.res
    rw [ho] at e2
    simp only at e2
    rw [e2]
    simp
  have h2 := h1.1
  obtain ⟨v', w2, hrun, ho, hb, hz⟩ := push_ownB h.own h.sz x (by omega)
  have := args_open (t := r.drop 1) (by rw [hu])
  rw [← e, hu] at this
  have r1 := h.res
  rw [this] at r1
  simp only [Prod.mk.injEq] at r1
  refine ⟨v', w2, hrun, ?_, r1.2, h.bel.trans hb, Nat.le_trans h.sz hz⟩
  rw [r1.1]
  exact ho

theorem BAt.piece (h : BAt w N A F r acc v wr) (hc : r[0]? = some 34) : (uq (r.drop 1)).1.length ≤ 1000000 := by
  have e := cons_of hc
  have e2 := congrArg Prod.fst h.res
  simp only at e2
  refine h.num.2 _ ?_
  rw [e2]
  cases hf : (uq (r.drop 1)).2.2
  · have := args_open (t := r.drop 1) hf
    rw [← e] at this
    rw [this]
    simp
  · have := args_quote (t := r.drop 1) hf
    rw [← e] at this
    rw [this]
    simp
end
set_option maxHeartbeats 4000000 in
theorem args_big (b : List UInt8) (w : World) (hM : Mx w) (hb : b.length ≤ 4000000000000000000) (hn : (args b).1.length ≤ 8796093021952 ∧ ∀ x ∈ (args b).1, x.length ≤ 1000000) :
    Calls Tryd.prog 12 #[.string ⟨b.toArray⟩] w fun e w' => ∃ v, e = .returned (.tuple #[v, .bool (args b).2]) ∧ SOwn w.heap.size w' v (args b).1 ∧ Below w.heap.size w w' ∧ w.heap.size ≤ w'.heap.size := by
  have HM := Lib.hid (fun W (h : Below w.heap.size w W) => hM.below (Nat.le_refl _) h)
  obtain ⟨A, F, hAF⟩ : ∃ A F, args b = (A, F) := ⟨_, _, rfl⟩
  rw [hAF] at hn
  have HA := Lib.hid (BAt.start w b hAF hn)
  clear hn
  rw [hAF]
  simp only
  obtain ⟨N, hN⟩ : ∃ N, b.length = N := ⟨_, rfl⟩
  rw [hN] at HA hb
  clear hM hAF hN
  go_enter Tryd.func12, Tryd.ntmps12
  go_wp2_with fail
  go_step3
  go_wp2_with fail
  go_step3
  go_wp2_with fail
  go_loopw [0, 4, 5] (fun s v o wr => ∃ (r : List UInt8) (acc : List (List UInt8)), s = .string ⟨r.toArray⟩ ∧ o = .bool true ∧ BAt w N A F r acc v wr) (fun s _ _ _ => txtLen s)
  case atStart => exact ⟨b, [], rfl, rfl, HA.out⟩
  case round =>
    obtain ⟨r, acc, rfl, rfl, ha⟩ := hrel
    rcases hr0 : r[0]? with _ | c
    · obtain rfl : r = [] := by cases r with
        | nil => rfl
        | cons c t => simp at hr0
      obtain ⟨rfl, rfl⟩ := ha.fin
      have E1 : ∀ W, (neqS (.string ⟨#[]⟩) (.string ⟨#[]⟩)).run Tryd.prog W = .ok (.bool false) W := neqS_run [] []
      have HX := Lib.hid ha
      clear ha hr0 HA
      go_wp2_with fail
      try rw [Exit.noGoto_ret]
      go_ret2
      exact ⟨_, rfl, HX.out.own, HX.out.bel, HX.out.sz⟩
    · have hrl : 1 ≤ r.length := by
        have := (List.getElem?_eq_some_iff.1 hr0).1
        omega
      have hrb := ha.le
      have E1 : ∀ W, (neqS (.string ⟨r.toArray⟩) (.string ⟨#[]⟩)).run Tryd.prog W = .ok (.bool true) W := by
        have h := neqS_run r []
        have hne : ¬ r = [] := by rintro rfl; simp at hrl
        rw [decide_eq_false hne] at h
        exact h
      have k0 : ∀ W, (Instr.index 9 (.string ⟨r.toArray⟩) (.int .i64 0)).run Tryd.prog W = .ok (.int .u8 (c.toNat : Int)) W := str_idx r 0 c hr0
      have B1 := Lib.hid (fun W => blank_any c W)
      have HX := Lib.hid ha
      have HR := Lib.hid hr0
      clear HA ha
      by_cases hbk : blk c = true
      · rw [hbk] at B1
        have k1 : ∀ W, (Instr.slice 9 (.string ⟨r.toArray⟩) (some (.int .i64 1)) none none).run Tryd.prog W = .ok (.string ⟨(r.drop 1).toArray⟩) W := str_from r 1 hrl
        have HY := Lib.hid (HX.out.blank hr0 hbk)
        have hdl : (r.drop 1).length < r.length := by rw [List.length_drop]; omega
        obtain ⟨r1, hr1⟩ : ∃ r1, r.drop 1 = r1 := ⟨_, rfl⟩
        rw [hr1] at k1 HY hdl
        clear hr1 hr0 hbk
        go_wp2_with (go_at_call 25; refine (B1.out _).mono ?_; rintro e w' ⟨rfl, rfl⟩)
        go_roundw
        case rel => exact ⟨r1, acc, rfl, rfl, HY.out⟩
        case measure => show txtLen _ < txtLen _; rw [txtLen_of, txtLen_of]; exact hdl
      · have hbk' : blk c = false := by simpa using hbk
        rw [hbk'] at B1
        clear hbk
        by_cases h34 : c = 34
        · subst h34
          have k0' : ∀ W, (Instr.index 9 (.string ⟨r.toArray⟩) (.int .i64 0)).run Tryd.prog W = .ok (.int .u8 34) W := k0
          obtain ⟨x, R, F1, hu⟩ : ∃ x R F1, uq (r.drop 1) = (x, R, F1) := ⟨_, _, _, rfl⟩
          obtain ⟨hRl, hRd⟩ := uq_drop hrl hu
          have hpc := HX.out.piece hr0
          have U1 : Hid (∀ W, Mx W → Calls Tryd.prog 26 #[.string ⟨r.toArray⟩] W fun e w' => e = .returned (.tuple #[.string ⟨x.toArray⟩, .int .i64 ((r.length - R.length : Nat) : Int), .bool F1]) ∧ Below W.heap.size W w') := Lib.hid fun W hM => by
            have h := unquoted_big r W hM hrl (by omega) hpc
            rw [hu] at h
            exact h
          have k2 := str_from r (r.length - R.length) (by omega)
          rw [hRd] at k2
          obtain ⟨n, hn⟩ : ∃ n, r.length - R.length = n := ⟨_, rfl⟩
          rw [hn] at U1 k2
          have HU := Lib.hid hu
          clear hn hRd k0 hr0 hbk' hu hpc
          cases F1
          · go_wp2_with (go_at_call 25; refine (B1.out _).mono ?_; rintro e w' ⟨rfl, rfl⟩)
            refine (U1.out _ (HM.out _ HX.out.bel)).mono ?_
            rintro e w1 ⟨rfl, b1⟩
            obtain ⟨v', w2, k3, h3⟩ := (HX.out.keep b1).openq (by omega) HR.out HU.out
            have H3 := Lib.hid h3
            clear h3 b1 U1 HX HR HU HM
            go_wp2_with fail
            try rw [Exit.noGoto_ret]
            go_ret2
            obtain ⟨q1, q2, q3, q4⟩ := H3.out
            exact ⟨_, by rw [q2]; rfl, q1, q3, q4⟩
          · go_wp2_with (go_at_call 25; refine (B1.out _).mono ?_; rintro e w' ⟨rfl, rfl⟩)
            refine (U1.out _ (HM.out _ HX.out.bel)).mono ?_
            rintro e w1 ⟨rfl, b1⟩
            obtain ⟨v', w2, k3, h3, -⟩ := (HX.out.keep b1).quote (by omega) HR.out HU.out
            have H3 := Lib.hid h3
            have HRd : Hid (∀ d, R[0]? = some d → d ≠ 34) := Lib.hid fun d hd => by
              have h := uq_head _ (r.drop 1) (Nat.le_refl _) (by rw [HU.out])
              rw [HU.out] at h
              rintro rfl
              cases R with
              | nil => simp at hd
              | cons y t => simp at hd h; exact h hd
            clear h3 b1 U1 HX HR HU
            rcases hR0 : R[0]? with _ | d
            · obtain rfl : R = [] := by cases R with
                | nil => rfl
                | cons c t => simp at hR0
              have E2 : ∀ W, (eqlS (.string ⟨#[]⟩) (.string ⟨#[]⟩)).run Tryd.prog W = .ok (.bool true) W := eqlS_run [] []
              clear hR0 HM HRd
              go_wp2_with fail
              go_roundw
              case rel => exact ⟨[], acc ++ [x], rfl, rfl, H3.out⟩
              case measure => show txtLen _ < txtLen _; rw [txtLen_of, txtLen_of]; exact hRl
            · have hRl1 : 1 ≤ R.length := by
                have := (List.getElem?_eq_some_iff.1 hR0).1
                omega
              have E2 : ∀ W, (eqlS (.string ⟨R.toArray⟩) (.string ⟨#[]⟩)).run Tryd.prog W = .ok (.bool false) W := by
                have h := eqlS_run R []
                have hne : ¬ R = [] := by rintro rfl; simp at hRl1
                rw [decide_eq_false hne] at h
                exact h
              have k4 : ∀ W, (Instr.index 9 (.string ⟨R.toArray⟩) (.int .i64 0)).run Tryd.prog W = .ok (.int .u8 (d.toNat : Int)) W := str_idx R 0 d hR0
              have B2 := Lib.hid (fun W => blank_any d W)
              by_cases hbd : blk d = true
              · rw [hbd] at B2
                clear hbd hR0 HM HRd
                go_wp2_with (go_at_call 25; refine (B2.out _).mono ?_; rintro e w' ⟨rfl, rfl⟩)
                go_roundw
                case rel => exact ⟨R, acc ++ [x], rfl, rfl, H3.out⟩
                case measure => show txtLen _ < txtLen _; rw [txtLen_of, txtLen_of]; exact hRl
              · have hbd' : blk d = false := by simpa using hbd
                rw [hbd'] at B2
                have N1 := Lib.hid (fun W => unblank_big R W (by omega))
                have hub := ubl_le R
                have hub1 : 1 ≤ ubl R := by rw [cons_of hR0]; exact ubl_pos hbd'
                have k5 := str_to R (ubl R) hub
                have k6 := str_from R (ubl R) hub
                obtain ⟨v2, w3, k7, h7, -⟩ := H3.out.plain (by omega) hR0 hbd' (HRd.out d hR0)
                have H7 := Lib.hid h7
                have hdl : (R.drop (ubl R)).length < r.length := by rw [List.length_drop]; omega
                obtain ⟨u, hu⟩ : ∃ u, ubl R = u := ⟨_, rfl⟩
                rw [hu] at N1 k5 k6 k7 H7 hdl
                obtain ⟨tk, htk⟩ : ∃ t, R.take u = t := ⟨_, rfl⟩
                obtain ⟨dk, hdk⟩ : ∃ t, R.drop u = t := ⟨_, rfl⟩
                rw [htk] at k5 k7 H7
                rw [hdk] at k6 H7 hdl
                clear hbd hbd' hR0 HM HRd h7 hub hub1 hu htk hdk H3
                go_wp2_with (first
                  | (go_at_call 25; refine (B2.out _).mono ?_; rintro e w' ⟨rfl, rfl⟩)
                  | (go_at_call 27; refine (N1.out _).mono ?_; rintro e w' ⟨rfl, rfl⟩))
                go_roundw
                case rel => exact ⟨dk, acc ++ [x] ++ [tk], rfl, rfl, H7.out⟩
                case measure => show txtLen _ < txtLen _; rw [txtLen_of, txtLen_of]; exact hdl
        · have hne : ((c.toNat : Int) == 34) = false := byte_ne h34
          have N1 := Lib.hid (fun W => unblank_big r W (by omega))
          have hub := ubl_le r
          have hub1 : 1 ≤ ubl r := by rw [cons_of hr0]; exact ubl_pos hbk'
          have k5 := str_to r (ubl r) hub
          have k6 := str_from r (ubl r) hub
          obtain ⟨v2, w3, k7, h7, -⟩ := HX.out.plain (by omega) hr0 hbk' h34
          have H7 := Lib.hid h7
          have hdl : (r.drop (ubl r)).length < r.length := by rw [List.length_drop]; omega
          obtain ⟨u, hu⟩ : ∃ u, ubl r = u := ⟨_, rfl⟩
          rw [hu] at N1 k5 k6 k7 H7 hdl
          obtain ⟨tk, htk⟩ : ∃ t, r.take u = t := ⟨_, rfl⟩
          obtain ⟨dk, hdk⟩ : ∃ t, r.drop u = t := ⟨_, rfl⟩
          rw [htk] at k5 k7 H7
          rw [hdk] at k6 H7 hdl
          clear hbk' hr0 HM h7 hub hub1 hu htk hdk h34 HX HR
          go_wp2_with (first
            | (go_at_call 25; refine (B1.out _).mono ?_; rintro e w' ⟨rfl, rfl⟩)
            | (go_at_call 27; refine (N1.out _).mono ?_; rintro e w' ⟨rfl, rfl⟩))
          go_roundw
          case rel => exact ⟨dk, acc ++ [tk], rfl, rfl, H7.out⟩
          case measure => show txtLen _ < txtLen _; rw [txtLen_of, txtLen_of]; exact hdl
end Go.Proofs.YtigdfknmmjafkaaDoor
