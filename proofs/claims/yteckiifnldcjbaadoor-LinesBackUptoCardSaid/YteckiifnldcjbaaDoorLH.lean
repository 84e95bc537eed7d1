/- The walk of LinesMacros. -/
import Derived.Test.YteckiifnldcjbaaDoorLG
import Derived.Test.YteckiifnldcjbaaDoorLE
namespace Go.Proofs.YteckiifnldcjbaaDoor
open Go.RowKit
attribute [local go_sem ↓ high] binop_addS binop_eqlS binop_neqS

theorem wrap_add (a b : Int) : IntKind.i64.wrap (IntKind.i64.wrap a + b) = IntKind.i64.wrap (a + b) := by
  simp [IntKind.wrap, IntKind.bits, IntKind.signed]
  omega
theorem tot_next {l : List (List UInt8)} {p : Nat} {x : List UInt8} (hx : l[p]? = some x) : tot (l.take (p + 1)) = tot (l.take p) + x.length := by
  rw [List.take_add_one, hx]
  exact tot_snoc _ _
theorem sepq_next {l : List (List UInt8)} {p : Nat} {x : List UInt8} (hx : l[p]? = some x) : sepq (l.take (p + 1)) = sepq (l.take p) ++ [32] ++ qt x := by
  rw [List.take_add_one, hx]
  show sepq (l.take p ++ [x]) = _
  rw [sepq_snoc]
  simp

theorem tot_take (l : List (List UInt8)) (p : Nat) : tot (l.take p) ≤ tot l := by
  have h : tot (l.take p ++ l.drop p) = tot (l.take p) + tot (l.drop p) := by unfold tot; rw [List.map_append, List.sum_append]
  rw [List.take_append_drop] at h
  omega
theorem sgap (r : Nat) (hr : r ≤ 10) : (⟨#[32, 32, 32, 32, 32, 32, 32, 32, 32, 32]⟩ : ByteArray).extract 0 r = ⟨(List.replicate r 32).toArray⟩ := by
  have : (⟨#[32, 32, 32, 32, 32, 32, 32, 32, 32, 32]⟩ : ByteArray) = ⟨(List.replicate 10 32).toArray⟩ := rfl
  rw [this, ByteArray.extract_mk]
  congr 1
  show (List.take (r - 0) (List.drop 0 (List.replicate 10 32))).toArray = _
  rw [List.drop_zero, Nat.sub_zero, List.take_replicate, Nat.min_eq_left hr]
theorem lit_row {W : World} {a : Option Addr × Nat × Nat} {l : List (List UInt8)} (n : Int) (m t : List UInt8) (h : Ss W (avOf a) l) (C : Array Value) (hC : C = (rcell (n, m, a, t)).toArray) :
    Rws (W.alloc (.cells C 34)) (.slice (some ⟨W.heap.size, 0, none⟩) 1 1) [(n, m, l, t)] := by
  have hu := fs_lit rcell_len W 34 [(n, m, a, t)]
  rw [flatV_one, ← hC] at hu
  exact ⟨[(n, m, a, t)], hu, (AllIs.nil _).snoc (L := []) (l := []) ⟨rfl, rfl, rfl, h.below (below_lit W _)⟩⟩
set_option maxRecDepth 100000 in
set_option maxHeartbeats 8000000 in
theorem macrosL_any (m : List UInt8) (l : List (List UInt8)) (v : Value) (k : Int) (w : World) (hM : Mx w) (hv : Ss w v l) (hm : m.length ≤ 1000000000000000) (hl : l.length ≤ 1000000000000000) (ha : ∀ x ∈ l, x.length ≤ 1000000000000000) (hk0 : 0 ≤ k) (hk1 : k ≤ 255) :
    Calls Tryd.prog 10 #[.string ⟨m.toArray⟩, v, .int .u8 k] w fun e W' => e = .returned (.bool true) ∧ Below w.heap.size w W' := by
  have hsz := arr_size m
  have HM := Lib.hid (fun W (h : Below w.heap.size w W) => hM.below (Nat.le_refl _) h)
  have HV := Lib.hid hv
  have HLA := Lib.hid ha
  obtain ⟨aa, ca, rfl, -, -⟩ := hv
  clear hM ha
  go_enter Tryd.func10, Tryd.ntmps10
  go_wp2_with fail
  go_loopw [7, 8] (fun n i wr => ∃ (p m' : Nat) (z : Int), wr = w.drewN m' ∧ n = .int .i64 z ∧ i = .int .i64 (p : Int) ∧ p ≤ l.length ∧ z = IntKind.i64.wrap ((m.length : Int) + (tot (l.take p) : Int))) (fun _ i _ => l.length - (intOf i).toNat)
  case atStart => exact ⟨0, 0, _, rfl, rfl, rfl, by omega, by simp [tot, IntKind.wrap, IntKind.bits, IntKind.signed]; omega⟩
  case round =>
    obtain ⟨p, m', z, hwr, rfl, rfl, hp, hz⟩ := hrel
    have HW := Lib.hid hwr
    have HZ := Lib.hid hz
    have hb3 := below_drewN (Below.refl w.heap.size w) m'
    rw [← hwr] at hb3
    have B3 := Lib.hid hb3
    clear hwr hz hb3
    by_cases hlt : p < l.length
    · obtain ⟨x, hx⟩ : ∃ x, l[p]? = some x := ⟨l[p], List.getElem?_eq_getElem hlt⟩
      obtain ⟨g, off, rfl, c0⟩ := Ss.at (HV.out.below B3.out) hx
      have hlt' : (p : Int) < (l.length : Int) := by omega
      have hp0 : (0 : Int) ≤ (p : Int) := by omega
      have HT : Hid (IntKind.i64.wrap (z + (x.length : Int)) = IntKind.i64.wrap ((m.length : Int) + (tot (l.take (p + 1)) : Int))) := Lib.hid (by
        rw [HZ.out, wrap_add, tot_next hx]
        congr 1
        omega)
      have hxs := arr_size x
      clear hx
      go_wp2_with fail
      go_roundw
      case rel => exact ⟨p + 1, m', IntKind.i64.wrap (z + (x.length : Int)), HW.out, congrArg (Value.int IntKind.i64) (by unfold wrap64; exact (IntKind.wrap_i64 _).symm), by go_num, by omega, HT.out⟩
      case measure => simp [intOf]; omega
    · obtain rfl : p = l.length := by omega
      have hlt' : ¬ (l.length : Int) < (l.length : Int) := by omega
      have hz : z = IntKind.i64.wrap ((m.length : Int) + (tot l : Int)) := by have := HZ.out; rwa [List.take_length] at this
      have VB := Lib.hid (HV.out.below B3.out)
      have BB := Lib.hid B3.out
      have HK := Lib.hid (fun W h => known_any W h)
      clear HW HZ B3 HV
      obtain ⟨W2, hW2⟩ : ∃ W2, W2 = wr := ⟨_, rfl⟩
      subst hW2
      by_cases h400 : 400 < z
      · have q1 : decide ((400 : Int) < z) = true := decide_eq_true h400
        have K2 := Lib.hid (HK.out _ (HM.out _ BB.out))
        clear hz
        go_wp2_with (go_at_call 11; refine K2.out.mono ?_; rintro e w' ⟨rfl, hb⟩)
        go_ret
        exact ⟨rfl, BB.out.trans (hb.mono BB.out.size)⟩
      · have q1 : decide ((400 : Int) < z) = false := decide_eq_false h400
        by_cases hme : m = []
        · have E1 : ∀ W, (eqlS (.string ⟨m.toArray⟩) (.string ⟨#[]⟩)).run Tryd.prog W = .ok (.bool true) W := fun W => by
            have h := eqlS_run m [] W
            rw [decide_eq_true hme] at h
            exact h
          have K2 := Lib.hid (HK.out _ (HM.out _ BB.out))
          clear hz hme
          go_wp2_with (go_at_call 11; refine K2.out.mono ?_; rintro e w' ⟨rfl, hb⟩)
          go_ret
          exact ⟨rfl, BB.out.trans (hb.mono BB.out.size)⟩
        · have E1 : ∀ W, (eqlS (.string ⟨m.toArray⟩) (.string ⟨#[]⟩)).run Tryd.prog W = .ok (.bool false) W := fun W => by
            have h := eqlS_run m [] W
            rw [decide_eq_false hme] at h
            exact h
          have HME := Lib.hid hme
          clear hme
          by_cases h200 : 200 < l.length
          · have C1 := Lib.hid (check_big 0 m (aa, l.length, ca) l W2 VB.out h200 (by omega))
            unfold rowV avOf at C1
            clear hz
            go_wp2_with fail
            refine C1.out.mono ?_
            rintro e w1 ⟨rfl, b1⟩
            have B1 := Lib.hid (BB.out.trans (b1.mono BB.out.size))
            have K2 := Lib.hid (HK.out _ (HM.out _ B1.out))
            clear b1 C1
            go_wp2_with (go_at_call 11; refine K2.out.mono ?_; rintro e w' ⟨rfl, hb⟩)
            go_ret
            exact ⟨rfl, B1.out.trans (hb.mono B1.out.size)⟩
          · have htl := tot_le HLA.out
            have htl2 : tot l ≤ 200 * 1000000000000000 := Nat.le_trans htl (Nat.mul_le_mul_right _ (by omega))
            have hz2 : z = (m.length : Int) + (tot l : Int) := by
              rw [hz]
              simp [IntKind.wrap, IntKind.bits, IntKind.signed]
              omega
            have hT : m.length + tot l ≤ 400 := by omega
            have hxl : ∀ x ∈ l, x.length ≤ 400 := fun x hx => by have := tot_mem hx; omega
            have C1 := Lib.hid (check_any 0 m (aa, l.length, ca) l [] W2 VB.out (by omega) (by omega) (by simp) (fun x hx => by have := hxl x hx; omega))
            unfold rowV avOf at C1
            obtain ⟨q, hq⟩ : ∃ q, okRow m l [] = q := ⟨_, rfl⟩
            rw [hq] at C1
            have HQ := Lib.hid hq
            have HXL := Lib.hid hxl
            clear hz hz2 htl htl2 hq hxl HLA
            cases q
            · have C2 : Hid (Calls Tryd.prog 18 #[.agg #[.int .i64 0, .string ⟨m.toArray⟩, .slice aa l.length ca, .string ⟨#[]⟩]] W2 fun e w' => e = .returned (.int .i64 2) ∧ Below W2.heap.size W2 w') := Lib.hid C1.out
              clear C1
              go_wp2_with fail
              refine C2.out.mono ?_
              rintro e w1 ⟨rfl, b1⟩
              have B1 := Lib.hid (BB.out.trans (b1.mono BB.out.size))
              have K2 := Lib.hid (HK.out _ (HM.out _ B1.out))
              clear b1 C2
              go_wp2_with (go_at_call 11; refine K2.out.mono ?_; rintro e w' ⟨rfl, hb⟩)
              go_ret
              exact ⟨rfl, B1.out.trans (hb.mono B1.out.size)⟩
            · have C2 : Hid (Calls Tryd.prog 18 #[.agg #[.int .i64 0, .string ⟨m.toArray⟩, .slice aa l.length ca, .string ⟨#[]⟩]] W2 fun e w' => e = .returned (.int .i64 0) ∧ Below W2.heap.size W2 w') := Lib.hid C1.out
              have HMac := Lib.hid (Mac.of HME.out HQ.out)
              clear C1 HQ HME
              go_wp2_with fail
              refine C2.out.mono ?_
              rintro e w1 ⟨rfl, b1⟩
              have B1 := Lib.hid (BB.out.trans (b1.mono BB.out.size))
              have V1 := Lib.hid (VB.out.below b1)
              clear b1 C2 BB VB
              go_wp2_with fail
              go_loopw [9, 10] (fun s i wr2 => ∃ p : Nat, i = .int .i64 (p : Int) ∧ p ≤ l.length ∧ s = .string ⟨(m ++ sepq (l.take p)).toArray⟩ ∧ Below w1.heap.size w1 wr2) (fun _ i _ => l.length - (intOf i).toNat)
              case atStart => exact ⟨0, rfl, by omega, by simp [sepq_nil], Below.refl _ _⟩
              case round =>
                obtain ⟨p, rfl, hp, rfl, hb⟩ := hrel
                have BB := Lib.hid hb
                clear hb
                have hsl := sepq_len (l.take p)
                have htt := tot_take l p
                rw [List.length_take] at hsl
                by_cases hlt : p < l.length
                · obtain ⟨x, hx⟩ : ∃ x, l[p]? = some x := ⟨l[p], List.getElem?_eq_getElem hlt⟩
                  have hxl := HXL.out x (List.mem_iff_getElem?.2 ⟨p, hx⟩)
                  obtain ⟨g, off, rfl, c0⟩ := Ss.at (V1.out.below BB.out) hx
                  have hlt' : (p : Int) < (l.length : Int) := by omega
                  have hp0 : (0 : Int) ≤ (p : Int) := by omega
                  have HN := Lib.hid (sepq_next hx)
                  have hql := (dbl_len x).2
                  have k1 := str_add (m ++ sepq (l.take p)) [32] (by simp; omega)
                  have k2 := str_add (m ++ sepq (l.take p) ++ [32]) (qt x) (by simp [qt]; omega)
                  obtain ⟨s1, hs1⟩ : ∃ s, m ++ sepq (l.take p) = s := ⟨_, rfl⟩
                  have HS1 := Lib.hid hs1
                  have hQ := quoted_any x _ (HM.out _ (B1.out.trans (BB.out.mono B1.out.size))) (by omega)
                  have HQ := Lib.hid hQ
                  rw [hs1] at k1 k2 ⊢
                  obtain ⟨s2, hs2⟩ : ∃ s, s1 ++ [32] = s := ⟨_, rfl⟩
                  rw [hs2] at k1 k2
                  have HS2 := Lib.hid hs2
                  clear hx hs1 hs2 hQ hsl htt hql
                  go_wp2_with fail
                  refine HQ.out.mono ?_
                  rintro e w3 ⟨rfl, b3⟩
                  have B3 := Lib.hid (BB.out.trans (b3.mono BB.out.size))
                  clear b3 HQ
                  go_wp2_with fail
                  go_roundw
                  case rel => exact ⟨p + 1, by go_num, by omega, by rw [HN.out, ← HS2.out, ← HS1.out]; simp, B3.out⟩
                  case measure => simp [intOf]; omega
                · obtain rfl : p = l.length := by omega
                  have hlt' : ¬ (l.length : Int) < (l.length : Int) := by omega
                  rw [List.take_length] at hsl ⊢
                  have B2 := Lib.hid (B1.out.trans (BB.out.mono B1.out.size))
                  have V2 := Lib.hid (V1.out.below BB.out)
                  clear BB V1 B1
                  have hr10 : (k % 10).toNat < 10 := by omega
                  have hgap := sgap (k % 10).toNat (by omega)
                  have r1 := HMac.out.read0 46 (.inl rfl) (k % 10).toNat
                  have r2 := HMac.out.read 39 (.inr rfl) (k % 10).toNat
                  have gl : (List.replicate (k % 10).toNat (32 : UInt8)).length ≤ 10 := by rw [List.length_replicate]; omega
                  obtain ⟨g, hg⟩ : ∃ g, List.replicate (k % 10).toNat (32 : UInt8) = g := ⟨_, rfl⟩
                  rw [hg] at hgap
                  have HG := Lib.hid hg
                  clear hg
                  go_wp2_with fail
                  have hg := HG.out
                  clear HG
                  obtain ⟨S, hS⟩ : ∃ S, m ++ sepq l = S := ⟨_, rfl⟩
                  have hSl : S.length ≤ 2000 := by rw [← hS, List.length_append]; omega
                  rw [hg] at r1 r2 gl
                  rw [hS] at r1 r2 ⊢
                  clear hg hS hgap hsl hr10
                  have A1 := str_add [46] g (by simp; omega)
                  have A2 := str_add ([46] ++ g) S (by simp; omega)
                  have A3 := str_add [39] g (by simp; omega)
                  have A4 := str_add ([39] ++ g) S (by simp; omega)
                  have A5 := str_add ([39] ++ g ++ S) [10] (by simp; omega)
                  rw [show 46 :: (g ++ S) = [46] ++ g ++ S by simp] at r1
                  rw [show 39 :: (g ++ S) ++ [10] = [39] ++ g ++ S ++ [10] by simp] at r2
                  have l1 : ([46] ++ g ++ S).length ≤ 40000 := by simp; omega
                  have l2 : ([39] ++ g ++ S ++ [10]).length ≤ 40000 := by simp; omega
                  obtain ⟨t1, ht1⟩ : ∃ t, [46] ++ g = t := ⟨_, rfl⟩
                  obtain ⟨t3, ht3⟩ : ∃ t, [39] ++ g = t := ⟨_, rfl⟩
                  rw [ht1] at A1 A2 r1 l1
                  rw [ht3] at A3 A4 A5 r2 l2
                  obtain ⟨t2, ht2⟩ : ∃ t, t1 ++ S = t := ⟨_, rfl⟩
                  obtain ⟨t4, ht4⟩ : ∃ t, t3 ++ S = t := ⟨_, rfl⟩
                  rw [ht2] at A2 r1 l1
                  rw [ht4] at A4 A5 r2 l2
                  obtain ⟨t5, ht5⟩ : ∃ t, t4 ++ [10] = t := ⟨_, rfl⟩
                  rw [ht5] at A5 r2 l2
                  have R1 := Lib.hid (fun W h => read_is r1 l1 1 0 rfl rfl W h)
                  have R2 := Lib.hid (fun W h => read_is r2 l2 1 0 rfl rfl W h)
                  clear ht1 ht2 ht3 ht4 ht5 r1 r2 l1 l2 gl hSl
                  go_wp2_with fail
                  refine (R1.out _ (HM.out _ B2.out)).mono ?_
                  rintro e W3 ⟨ra, rc, da, dc, rfl, x1, -, b1⟩
                  have B3 := Lib.hid (B2.out.trans (b1.mono B2.out.size))
                  have X1 := Lib.hid (And.intro x1 (V2.out.below b1))
                  clear b1 x1 R1 V2 B2
                  go_wp2_with fail
                  refine (R2.out _ (HM.out _ B3.out)).mono ?_
                  rintro e W4 ⟨rb, rcb, db, dcb, rfl, x2, -, b2⟩
                  have B4 := Lib.hid (B3.out.trans (b2.mono B3.out.size))
                  have X2 := Lib.hid (And.intro (X1.out.1.below b2) (And.intro x2 (X1.out.2.below b2)))
                  clear b2 x2 R2 X1 B3
                  go_wp2_with fail
                  have b5 := below_lit W4 (.cells #[.int .i64 1, .string ⟨m.toArray⟩, .slice aa l.length ca, .string ⟨#[]⟩] 34)
                  have B5 := Lib.hid (B4.out.trans (b5.mono B4.out.size))
                  have X5 := Lib.hid (And.intro (X2.out.1.below b5) (And.intro (X2.out.2.1.below b5) (lit_row (a := (aa, l.length, ca)) 1 m [] X2.out.2.2 #[.int .i64 1, .string ⟨m.toArray⟩, .slice aa l.length ca, .string ⟨#[]⟩] rfl)))
                  clear b5 X2 B4
                  generalize hW5 : W4.alloc (.cells #[.int .i64 1, .string ⟨m.toArray⟩, .slice aa l.length ca, .string ⟨#[]⟩] 34) = W5 at X5 B5 ⊢
                  have hnl : ∀ y ∈ ([(1, m, l, [])] : List Row), y.2.2.1.length ≤ 100000 := fun y hy => by
                    simp only [List.mem_singleton] at hy
                    subst hy
                    show l.length ≤ _
                    omega
                  have s1 := sameR_any [(1, m, l, [])] [(1, m, l, [])] _ _ W5 X5.out.1 X5.out.2.2 (by simp) (by simp) hnl hnl
                  rw [decide_eq_true rfl] at s1
                  have S1 := Lib.hid s1
                  have HNL := Lib.hid hnl
                  clear s1 hnl hW5
                  refine S1.out.mono ?_
                  rintro e W6 ⟨rfl, m6, hm6⟩
                  have b6 := below_drewN (Below.refl W5.heap.size W5) m6
                  rw [← hm6] at b6
                  have B6 := Lib.hid (B5.out.trans (b6.mono B5.out.size))
                  have s2 := sameR_any [(1, m, l, [])] [(1, m, l, [])] _ _ W6 (X5.out.2.1.below b6) (X5.out.2.2.below b6) (by simp) (by simp) HNL.out HNL.out
                  rw [decide_eq_true rfl] at s2
                  have S2 := Lib.hid s2
                  clear s2 b6 hm6 S1 X5 B5 HNL
                  go_wp2_with fail
                  refine S2.out.mono ?_
                  rintro e W7 ⟨rfl, m7, hm7⟩
                  have b7 := below_drewN (Below.refl W6.heap.size W6) m7
                  rw [← hm7] at b7
                  have B7 := Lib.hid (B6.out.trans (b7.mono B6.out.size))
                  have K7 := Lib.hid (HK.out _ (HM.out _ B7.out))
                  clear b7 hm7 S2 B6
                  go_wp2_with fail
                  refine K7.out.mono ?_
                  rintro e W8 ⟨rfl, b8⟩
                  have B8 := Lib.hid (B7.out.trans (b8.mono B7.out.size))
                  clear b8 K7
                  go_wp2_with fail
                  go_ret
                  exact ⟨rfl, B8.out⟩
theorem macros_law (s0 : ByteArray) (v1 : Value) (n2 : Int) (l1 : List (List UInt8)) (w : World) (hM : Mx w) (hs1 : Ss w v1 l1) (m0 : s0.size ≤ 1000000000000000) (m1 : ∀ x ∈ l1, x.length ≤ 1000000000000000) (q1 : l1.length ≤ 1000000000000000) (k0 : 0 ≤ n2) (k1 : n2 ≤ 255) :
    Calls Tryd.prog 10 #[.string s0, v1, .int .u8 n2] w fun e W' => e = .returned (.bool true) ∧ Below w.heap.size w W' := by
  obtain ⟨a, rfl⟩ : ∃ a : List UInt8, s0 = ⟨a.toArray⟩ := ⟨s0.data.toList, by simp⟩
  rw [arr_size] at m0
  exact macrosL_any a l1 v1 n2 w hM hs1 m0 q1 m1 k0 k1
end Go.Proofs.YteckiifnldcjbaaDoor
