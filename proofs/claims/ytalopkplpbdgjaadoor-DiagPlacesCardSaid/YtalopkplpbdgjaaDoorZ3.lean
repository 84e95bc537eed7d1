/- The contract of Join, through a veil; a slice of one error is built. -/
import Derived.Test.YtalopkplpbdgjaaDoorZ2
namespace Go.Proofs.YtalopkplpbdgjaaDoor
open Go.RowKit Go.Shelf Go.Extern.Stop Go.Stop Go.Extern

set_option maxRecDepth 100000 in
set_option maxHeartbeats 4000000 in
theorem join_veil (o : Option Nat) (s cap n : Nat) (vs : List (Value × List D)) (w : World) (hm : vs.length ≤ 1000) (hc : ∀ (j : Nat) (p : Value × List D), vs[j]? = some p → w.cell? ⟨s, j, none⟩ = some p.1) (hv : ∀ p ∈ vs, EO (veil o w) n p.1 p.2) (ho : okO o w.heap.size) :
    Calls Tryd.prog 22 #[.slice (some ⟨s, 0, none⟩) vs.length cap] w fun e W' => ∃ v, e = .returned v ∧ EO (veil o W') (n + 1) v (vs.map (·.2)).flatten ∧ Below w.heap.size w W' := by
  obtain ⟨i0, hi, hz0, hz1, hz2⟩ := info_parts Tryd.info34
  have HC := Lib.hid hc
  have HV := Lib.hid hv
  have HOK := Lib.hid ho
  clear hc hv ho
  go_enter Tryd.func22, Tryd.ntmps22
  go_wp2_with fail
  go_loopw [3, 8] (fun u i wr => ∃ (j : Nat) (a : Option Addr) (c : Nat), j ≤ vs.length ∧ i = .int .i64 j ∧ u = .slice a (there (vs.take j)).length c ∧ wr.ownsRow w.heap.size 34 1 u (there (vs.take j)).length (errVals ((there (vs.take j)).map (·.1))) ∧ Below w.heap.size w wr) (fun _ i _ => vs.length - (intOf i).toNat)
  case atStart => exact ⟨0, none, 0, Nat.zero_le _, rfl, rfl, World.ownsRow_nil _ _ _ _, Below.refl _ _⟩
  case round =>
    obtain ⟨j, a, c, hj, rfl, rfl, hown, hb⟩ := hrel
    by_cases hlt : j < vs.length
    · obtain ⟨⟨v, d⟩, hp1⟩ : ∃ p, vs[j]? = some p := ⟨vs[j], List.getElem?_eq_getElem hlt⟩
      have h0 := HC.out j (v, d) hp1
      have hs := World.block_lt_of_cell? w _ h0
      simp only at hs h0
      have c0 : wr.cell? ⟨s, j, none⟩ = some v := (hb.cell hs).trans h0
      have hmem : (v, d) ∈ vs := List.mem_of_getElem? hp1
      have htk : vs.take (j + 1) = vs.take j ++ [(v, d)] := by rw [List.take_add_one, hp1]; rfl
      have HO := Lib.hid hown
      have HT := Lib.hid htk
      clear h0 hp1 htk hown
      rcases HV.out (v, d) hmem with ⟨e1, e2⟩ | ⟨t, x, e1, e2⟩
      · simp only at e1 e2
        subst e1 e2
        go_wp2_with fail
        go_roundw
        case rel => exact ⟨j + 1, a, c, by omega, by go_num, by rw [HT.out, there_append]; simp [there], by rw [HT.out, there_append]; simpa [there] using HO.out, hb⟩
        case measure => simp [intOf]; omega
      · simp only at e1
        subst e1
        clear e2 hmem
        have hlen : (there (vs.take j)).length < 1000 := by
          have := there_length (vs.take j)
          rw [List.length_take] at this
          omega
        have hwr := hb.size
        have C3 : Hid (∀ u ∈ [Value.iface t x], u.oneCell' = true) := by intro u hu; obtain rfl := List.mem_singleton.1 hu; rfl
        have C4 : Hid ((there (vs.take j)).length + 1 ≤ maxLen) := by show _ ≤ _; unfold maxLen; omega
        go_wp2_with (at_builtin; refine wpList_append_own _ rfl _ _ 24 rfl w.heap.size 34 i0 .nilIface 1 16 Tryd.underlying24 hi hz0 hz1 hz2 rfl (by decide) (.slice a (there (vs.take j)).length c) _ _ rfl (HO.out.alloc _) ⟨wr.heap.size, 0, none⟩ 1 1 [.iface t x] rfl rfl (cell_one_new _ _ _) C3.out C4.out (by omega) (by simp; omega) ?_; intro v' w1 hown' hgrow _; obtain ⟨g', cap', rfl⟩ := ownsRow_succ hown')
        have hB1 : Below w.heap.size w w1 := (hb.alloc hb.size _).grown hgrow (by simp; omega) (fun k e => by
          rcases HO.out.2 with ⟨e1, _⟩ | ⟨g, cap, cur, e1, hbg, _⟩
          · rw [e1] at e; simp [Value.ownBlock] at e
          · rw [e1] at e
            obtain rfl : g = k := by simpa [Value.ownBlock] using e
            exact hbg)
        go_roundw
        case rel =>
          refine ⟨j + 1, some ⟨g', 0, none⟩, cap', by omega, by go_num, ?_, ?_, hB1⟩
          · rw [HT.out, there_append]; simp [there]
          · rw [HT.out, there_append]; simpa [there, errVals] using hown'
        case measure => simp [intOf]; omega
    · obtain rfl : j = vs.length := by omega
      rw [List.take_length] at hown
      obtain ⟨hE, hF⟩ := there_mem vs HV.out
      have HO := Lib.hid hown
      have HE := Lib.hid hE
      have HF := Lib.hid hF
      have HB := Lib.hid hb
      clear hE hF hown
      by_cases hz : there vs = []
      · have hl : (((there vs).length : Int) == 0) = true := by simp [hz]
        have HZ := Lib.hid hz
        clear hz
        go_wp2_with fail
        go_ret
        refine ⟨_, rfl, .inl ⟨rfl, ?_⟩, HB.out⟩
        rw [← HF.out, HZ.out]
        rfl
      · have hl : (((there vs).length : Int) == 0) = false := by simp [hz]
        have hp : 0 < (there vs).length := List.length_pos_iff.2 hz
        clear hz
        have hle := there_length vs
        have hH := HoldsErrs.of_owns (es := (there vs).map (·.1)) (by simpa using hp) HO.out
        obtain ⟨g, cap', e1, hg, _, hcells⟩ := hH
        simp only [Value.slice.injEq, List.length_map] at e1
        obtain ⟨rfl, _, rfl⟩ := e1
        have HC2 := Lib.hid hcells
        clear hcells
        go_wp2_with fail
        go_ret
        refine ⟨_, rfl, .inr ⟨78, _, rfl, ?_⟩, hb.alloc hb.size _⟩
        have hno : ∀ b, w.heap.size ≤ b → o ≠ some b := fun b hb e => by have := HOK.out b e; omega
        have hws := HB.out.size
        unfold Er
        refine .inr (.inr ⟨wr.heap.size, g, c, (there vs).map (·.1), (there vs).map (·.2), rfl, by simpa using hp, by simp; omega, by simp, veil_cell.2 ⟨hno _ hws, by simp⟩, fun j p hj => ?_, fun j p d hj hd => ?_, HF.out.symm⟩)
        · have h1 := HC2.out j p hj
          refine veil_cell.2 ⟨hno _ hg, ?_⟩
          rw [World.cell?_alloc_lt _ _ _ (World.block_lt_of_cell? _ _ h1)]
          exact h1
        · obtain ⟨q, hq, rfl⟩ : ∃ q, (there vs)[j]? = some q ∧ q.1 = p := by simpa using hj
          obtain ⟨q', hq', rfl⟩ : ∃ q, (there vs)[j]? = some q ∧ q.2 = d := by simpa using hd
          obtain rfl : q = q' := by rw [hq] at hq'; exact Option.some.inj hq'
          refine (HE.out q (List.mem_of_getElem? hq)).mono fun {b i u} hu => ?_
          obtain ⟨h1, h2⟩ := veil_cell.1 hu
          exact veil_cell.2 ⟨h1, ((HB.out.trans ((Below.refl _ _).alloc HB.out.size _)).cell (p := ⟨b, i, none⟩) (World.block_lt_of_cell? w _ h2)).trans h2⟩

/-- Join of two, out of the slice that the call has just made. -/
theorem join2_veil {w0 w : World} {n : Nat} {v1 v2 : Value} {d1 d2 : List D} (o : Option Nat) (ho : okO o w0.heap.size) (h1 : EO (veil o w0) n v1 d1) (h2 : EO (veil o w0) n v2 d2) (hw : w0.alloc (.cells #[v1, v2] 34) = w) :
    Calls Tryd.prog 22 #[.slice (some ⟨w0.heap.size, 0, none⟩) 2 2] w fun e w' => ∃ v', e = .returned v' ∧ EO (veil o w') (n + 1) v' (d1 ++ d2) ∧ Below w0.heap.size w0 w' := by
  subst hw
  have hb : Below w0.heap.size w0 (w0.alloc (.cells #[v1, v2] 34)) := (Below.refl _ _).alloc (Nat.le_refl _) _
  refine (join_veil o w0.heap.size 2 n [(v1, d1), (v2, d2)] _ (by simp) (fun j p hj => ?_) (fun p hp => ?_) (fun g hg => by have := ho g hg; simp; omega)).mono ?_
  · match j, hj with
    | 0, hj => simp at hj; subst hj; simp
    | 1, hj => simp at hj; subst hj; simp
  · simp at hp
    rcases hp with rfl | rfl
    · exact h1.veil_below hb
    · exact h2.veil_below hb
  · rintro e w' ⟨v, he, hv, hb'⟩
    exact ⟨v, he, by simpa using hv, hb.trans (hb'.mono (by simp))⟩
theorem bs24_one {wa : World} {n1 : Nat} {v1 : Value} {d1 : List D} (h1 : EO wa n1 v1 d1) (w : World) :
    (bs24 1 #[(0, v1)]).run Tryd.prog w = .ok (.slice (some ⟨w.heap.size, 0, none⟩) 1 1) (w.alloc (.cells #[v1] 34)) := by
  unfold bs24
  rcases h1 with ⟨rfl, _⟩ | ⟨t1, x1, rfl, _⟩ <;> go_simp
end Go.Proofs.YtalopkplpbdgjaaDoor
