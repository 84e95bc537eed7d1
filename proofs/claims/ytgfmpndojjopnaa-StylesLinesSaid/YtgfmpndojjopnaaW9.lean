/- The document's own reading of bytes is dec. -/
import Derived.Test.YtgfmpndojjopnaaW8
namespace Go.Proofs.Ytgfmpndojjopnaa
open Go.RowKit

/-- 'b[lo:hi]'. -/
noncomputable def subB (x lo hi : Value) : Sem Value := Instr.slice 58 x (some lo) (some hi) none
theorem slice_subB (x lo hi : Value) : Instr.slice 58 x (some lo) (some hi) none = subB x lo hi := rfl

theorem By.sub {w : World} {v : Value} {b : List UInt8} (h : By w v b) (q k : Nat) (hk : q + k ≤ b.length) :
    ∃ v', (∀ W : World, (subB v (.int .i64 (q : Int)) (.int .i64 ((q : Int) + (k : Int)))).run Try.prog W = .ok v' W) ∧ By w v' ((b.drop q).take k) := by
  obtain ⟨i0, hi, hz0, hz1, hz2⟩ := info_parts infoB
  obtain ⟨a, cap, rfl, hc, hr⟩ := h
  rw [List.length_map] at hc ⊢
  refine ⟨.slice (if cap = q then a else a.map (·.add (q * 1))) k (cap - q), fun W => ?_, ?_⟩
  · unfold subB
    have h1 : q ≤ q + k := by omega
    have h2 : q + k ≤ cap := by omega
    have e : ((q : Int) + (k : Int)) = ((q + k : Nat) : Int) := by omega
    have h3 : ((q + k : Nat) : Int).toNat = q + k := by omega
    rw [e]
    simp [Instr.slice, Instr.sliceBounds, Instr.sliceBound, asIntOf, run_underlying Try.underlying58, h1, h2, h3, sizeOf, typeInfo, hi, hz1]
    have ht : ((q : Int) + (k : Int)).toNat - q = k := by omega
    rw [if_pos ⟨by omega, by omega⟩, if_pos (by omega), ht]
  · have hl : (((b.drop q).take k).map fun x => (x.toNat : Int)).length = k := by simp; omega
    refine ⟨_, _, by rw [hl], by rw [hl]; omega, fun j z hj => ?_⟩
    have hj1 : j < k := by
      have := (List.getElem?_eq_some_iff.1 hj).1
      omega
    have hj2 : (b.map fun x => (x.toNat : Int))[q + j]? = some z := by
      simp only [List.getElem?_map, List.getElem?_take_of_lt hj1, List.getElem?_drop] at hj ⊢
      exact hj
    obtain ⟨g, off, rfl, c⟩ := hr (q + j) z hj2
    rw [if_neg (by omega)]
    refine ⟨g, off + q, ?_, ?_⟩
    · simp only [Option.map_some, Nat.mul_one, Option.some.injEq]
      rw [Addr.add_lit]
    · rw [show off + q + j = off + (q + j) by omega]
      exact c

attribute [local go_sem ↓ high] builtin_appR slice_subB
set_option maxRecDepth 100000 in
set_option maxHeartbeats 4000000 in
theorem rdecode_any (b : List UInt8) (hb : b.length ≤ 2000) (v : Value) (w : World) (hv : By w v b) :
    Calls Try.prog 31 #[v] w fun e w' => ∃ u, e = .returned u ∧ Sl .i32 w' u (dec b) ∧ Below w.heap.size w w' := by
  have HV := Lib.hid hv
  obtain ⟨a, cap, rfl, -, -⟩ := hv
  rw [List.length_map] at HV ⊢
  have hdl := dec_le b
  go_enter Try.func31, Try.ntmps31
  go_wp2_with fail
  go_loopw [3, 4] (fun s i wr => ∃ (q : Nat) (pre : List Int), q ≤ b.length ∧ i = .int .i64 q ∧ Own w.heap.size 21 .i32 wr s pre ∧ pre ++ dec (b.drop q) = dec b ∧ Below w.heap.size w wr) (fun _ i _ => b.length - (intOf i).toNat)
  case atStart => exact ⟨0, [], by omega, rfl, Own.nil _ _ _ _, rfl, Below.refl _ _⟩
  case round =>
    obtain ⟨q, pre, hq, rfl, ho, hpre, hbw⟩ := hrel
    obtain ⟨wo, hwo⟩ : ∃ wo : World, wo = wr := ⟨wr, rfl⟩
    subst hwo
    have HO := Lib.hid ho
    have HP := Lib.hid hpre
    have HB := Lib.hid hbw
    have zb := hbw.size
    have hpl : pre.length ≤ 2000 := by
      have := congrArg List.length hpre
      rw [List.length_append] at this
      omega
    clear ho hpre hbw
    by_cases hlt : q < b.length
    · have hi0 : (q : Int) < (b.length : Int) := by omega
      obtain ⟨R, hR⟩ : ∃ R, b.drop q = R := ⟨_, rfl⟩
      have hRl : R.length = b.length - q := by rw [← hR, List.length_drop]
      have hRne : R ≠ [] := by intro h; rw [h] at hRl; simp at hRl; omega
      have hdrop : ∀ k, b.drop (q + k) = R.drop k := fun k => by rw [← hR, List.drop_drop]
      rw [hR] at HP
      have HSUB := Lib.hid (fun (k : Nat) (hk : q + k ≤ b.length) => By.sub (By.below HV.out HB.out) q k hk)
      rw [hR] at HSUB
      have HRN := Lib.hid hRne
      have HDR := Lib.hid hdrop
      have HRL := Lib.hid hRl
      clear hR hRne hdrop hRl
      go_wp2_with fail
      go_loopw [5, 6] (fun vn vk wi => ∃ n k : Nat, vn = .int .i64 n ∧ vk = .int .i64 k ∧ 1 ≤ k ∧ k ≤ 5 ∧ ((n = 0 ∧ ∀ k', 1 ≤ k' → k' < k → k' ≤ R.length → isR (ints (R.take k')) = false) ∨ (1 ≤ n ∧ n ≤ 4 ∧ q + n ≤ b.length ∧ isR (ints (R.take n)) = true)) ∧ Below wo.heap.size wo wi) (fun _ vk _ => 6 - (intOf vk).toNat)
      case atStart => exact ⟨0, 1, rfl, rfl, by omega, by omega, .inl ⟨rfl, fun k' h1 h2 => by omega⟩, Below.refl _ _⟩
      case round =>
        obtain ⟨n, k, rfl, rfl, hk1, hk5, hcase, hbi⟩ := hrel
        have HBI := Lib.hid hbi
        have zi := hbi.size
        clear hbi
        rcases hcase with ⟨rfl, hno⟩ | ⟨hn1, hn4, hnl, his⟩
        · have HNO := Lib.hid hno
          clear hno
          by_cases hgo : k ≤ 4 ∧ q + k ≤ b.length
          · have g1 : (k : Int) ≤ 4 := by omega
            have g2 : (q : Int) + (k : Int) ≤ (b.length : Int) := by omega
            obtain ⟨v', hsub, hv'⟩ := HSUB.out k hgo.2
            have hl : (R.take k).length = k := by rw [List.length_take, HRL.out]; omega
            have hI := is_any (R.take k) (by omega) (by omega) v' wr (By.below hv' HBI.out)
            obtain ⟨bi, hbi⟩ : ∃ x, isR (ints (R.take k)) = x := ⟨_, rfl⟩
            rw [hbi] at hI
            have HI := Lib.hid hI
            have HBB := Lib.hid hbi
            clear hI hbi hv' hl
            cases bi with
            | true =>
              go_wp2_with (go_at_call 39; refine HI.out.mono ?_; rintro e w3 ⟨rfl, b3⟩)
              go_roundw
              case rel => exact ⟨k, k + 1, rfl, by go_num, by omega, by omega, .inr ⟨by omega, by omega, by omega, HBB.out⟩, HBI.out.trans (b3.mono zi)⟩
              case measure => simp [intOf]; omega
            | false =>
              go_wp2_with (go_at_call 39; refine HI.out.mono ?_; rintro e w3 ⟨rfl, b3⟩)
              go_roundw
              case rel =>
                refine ⟨0, k + 1, rfl, by go_num, by omega, by omega, .inl ⟨rfl, fun k' h1 h2 h3 => ?_⟩, HBI.out.trans (b3.mono zi)⟩
                by_cases hkk : k' = k
                · rw [hkk]; exact HBB.out
                · exact HNO.out k' h1 (by omega) h3
              case measure => simp [intOf]; omega
          · have hodd := Lib.hid (dec_odd HRN.out (fun k' h1 h2 h3 => HNO.out k' h1 (by have := HRL.out; omega) h3))
            have ba := below_lit wr (.cells #[.int .i32 65533] 21)
            have BI := Lib.hid (HB.out.trans (HBI.out.mono zb))
            have zI := BI.out.size
            have oa := (HO.out.keep HBI.out).keep ba
            obtain ⟨s', w4, k4, o4, g4, -⟩ := appR_own oa (sl_lit (k := .i32) wr 21 [65533]) (by simp; omega) (by simp; omega)
            have b4 := Lib.hid (oa.below (BI.out.trans (ba.mono zI)) (by simp; omega) g4)
            have O4 := Lib.hid o4
            have k4' : (appR #[u3, .slice (some ⟨wr.heap.size, 0, none⟩) 1 1]).run Try.prog (wr.alloc (.cells #[.int .i32 65533] 21)) = .ok (.value s') w4 := k4
            clear oa ba o4 g4 k4
            by_cases hk4 : k ≤ 4
            · have g1 : (k : Int) ≤ 4 := by omega
              have g2 : ¬ (q : Int) + (k : Int) ≤ (b.length : Int) := by omega
              go_wp2_with fail
              go_roundw
              case rel =>
                refine ⟨q + 1, pre ++ [65533], by omega, by go_num, O4.out, ?_, b4.out⟩
                rw [HDR.out 1, ← HP.out, hodd.out, List.append_assoc]
                rfl
              case measure => simp [intOf]; omega
            · have g1 : ¬ (k : Int) ≤ 4 := by omega
              go_wp2_with fail
              go_roundw
              case rel =>
                refine ⟨q + 1, pre ++ [65533], by omega, by go_num, O4.out, ?_, b4.out⟩
                rw [HDR.out 1, ← HP.out, hodd.out, List.append_assoc]
                rfl
              case measure => simp [intOf]; omega
        · have hl : (R.take n).length = n := by rw [List.length_take, HRL.out]; omega
          have hil : (ints (R.take n)).length = n := by simp only [ints, List.length_map]; exact hl
          have hx : ∀ x ∈ ints (R.take n), 0 ≤ x ∧ x ≤ 255 := by
            intro x hx
            simp only [ints, List.mem_map] at hx
            obtain ⟨y, _, rfl⟩ := hx
            have := y.toNat_lt
            omega
          have hfound := Lib.hid (dec_found hn1 (by rw [HRL.out]; omega) his)
          have hvz := (isR_decode (r := R) (k := n) (by rw [HRL.out]; omega) his).1
          obtain ⟨v', hsub, hv'⟩ := HSUB.out n hnl
          have hV := value_any (ints (R.take n)) (by omega) (by omega) hx v' wr (By.below hv' HBI.out)
          obtain ⟨z, hz⟩ : ∃ z, valZ (ints (R.take n)) = z := ⟨_, rfl⟩
          rw [hz] at hV hfound hvz
          simp only [vld, decide_eq_true_eq] at hvz
          have hz0 : 0 ≤ z := by omega
          have hz1 : z ≤ 1114111 := by omega
          have hVV := Lib.hid hV
          have ba := below_lit wr (.cells #[.int .i32 z] 21)
          have BI := Lib.hid (HB.out.trans (HBI.out.mono zb))
          have zI := BI.out.size
          have oa := (HO.out.keep HBI.out).keep ba
          obtain ⟨s', w4, k4, o4, g4, -⟩ := appR_own oa (sl_lit (k := .i32) wr 21 [z]) (by simp; omega) (by simp; omega)
          have b4 := Lib.hid (oa.below (BI.out.trans (ba.mono zI)) (by simp; omega) g4)
          have O4 := Lib.hid o4
          have k4' : (appR #[u3, .slice (some ⟨wr.heap.size, 0, none⟩) 1 1]).run Try.prog (wr.alloc (.cells #[.int .i32 z] 21)) = .ok (.value s') w4 := k4
          have hnz : ((n : Int) == 0) = false := by simp; omega
          have hn0 : ¬ (n : Int) = 0 := by omega
          clear oa ba o4 g4 k4 hV hvz hx hil hl hz hv' his
          by_cases hk4 : k ≤ 4
          · have g1 : (k : Int) ≤ 4 := by omega
            by_cases hkl : q + k ≤ b.length
            · have g2 : (q : Int) + (k : Int) ≤ (b.length : Int) := by omega
              go_wp2_with (go_at_call 40; refine hVV.out.mono ?_; rintro e w' ⟨rfl, rfl⟩)
              go_roundw
              case rel =>
                refine ⟨q + n, pre ++ [z], by omega, by go_num, O4.out, ?_, b4.out⟩
                rw [HDR.out n, ← HP.out, hfound.out, List.append_assoc]
                rfl
              case measure => simp [intOf]; omega
            · have g2 : ¬ (q : Int) + (k : Int) ≤ (b.length : Int) := by omega
              go_wp2_with (go_at_call 40; refine hVV.out.mono ?_; rintro e w' ⟨rfl, rfl⟩)
              go_roundw
              case rel =>
                refine ⟨q + n, pre ++ [z], by omega, by go_num, O4.out, ?_, b4.out⟩
                rw [HDR.out n, ← HP.out, hfound.out, List.append_assoc]
                rfl
              case measure => simp [intOf]; omega
          · have g1 : ¬ (k : Int) ≤ 4 := by omega
            go_wp2_with (go_at_call 40; refine hVV.out.mono ?_; rintro e w' ⟨rfl, rfl⟩)
            go_roundw
            case rel =>
              refine ⟨q + n, pre ++ [z], by omega, by go_num, O4.out, ?_, b4.out⟩
              rw [HDR.out n, ← HP.out, hfound.out, List.append_assoc]
              rfl
            case measure => simp [intOf]; omega
    · obtain rfl : q = b.length := by omega
      have hpe : pre = dec b := by
        have := HP.out
        rw [List.drop_length, dec_nil, List.append_nil] at this
        exact this
      have HO' := Lib.hid (hpe ▸ HO.out)
      clear hpe
      go_wp2_with fail
      go_ret
      exact ⟨_, rfl, HO'.out.sl, HB.out⟩
end Go.Proofs.Ytgfmpndojjopnaa
