/- The contract of Join at a slice of at most 1000 errors, nil or not: all that are not nil, in order; old memory is as it was. -/
import Derived.Test.YtalopkplpbdgjaaDoorX8
namespace Go.Proofs.YtalopkplpbdgjaaDoor
open Go.RowKit Go.Shelf Go.Extern.Stop Go.Stop Go.Extern

/-- What is no nil of a list of errors, with what each tells. -/
def there : List (Value × List D) → List ((TypeId × Value) × List D)
  | [] => []
  | (.iface t x, d) :: r => ((t, x), d) :: there r
  | _ :: r => there r
theorem there_append (a b : List (Value × List D)) : there (a ++ b) = there a ++ there b := by
  induction a with
  | nil => rfl
  | cons p a ih =>
    obtain ⟨v, d⟩ := p
    cases v <;> simp [there, ih]
theorem there_length (a : List (Value × List D)) : (there a).length ≤ a.length := by
  induction a with
  | nil => simp [there]
  | cons p a ih =>
    obtain ⟨v, d⟩ := p
    cases v <;> simp [there] <;> omega

theorem there_mem {w : World} {n : Nat} : ∀ (a : List (Value × List D)), (∀ p ∈ a, EO w n p.1 p.2) → (∀ q ∈ there a, Er w n (.iface q.1.1 q.1.2) q.2) ∧ ((there a).map (·.2)).flatten = (a.map (·.2)).flatten
  | [], _ => ⟨by simp [there], rfl⟩
  | (v, d) :: a, h => by
    obtain ⟨h1, h2⟩ := there_mem a (fun p hp => h p (List.mem_cons_of_mem _ hp))
    rcases h (v, d) (List.mem_cons_self ..) with ⟨e1, e2⟩ | ⟨t, x, e1, e2⟩
    · simp only at e1 e2
      subst e1 e2
      exact ⟨by simpa [there] using h1, by simpa [there] using h2⟩
    · simp only at e1 e2
      subst e1
      refine ⟨fun q hq => ?_, by simp [there, h2]⟩
      simp only [there, List.mem_cons] at hq
      rcases hq with rfl | hq
      · exact e2
      · exact h1 q hq

set_option maxRecDepth 100000 in
set_option maxHeartbeats 4000000 in
theorem join_any (s cap n : Nat) (vs : List (Value × List D)) (w : World) (hm : vs.length ≤ 1000) (hc : ∀ (j : Nat) (p : Value × List D), vs[j]? = some p → w.cell? ⟨s, j, none⟩ = some p.1) (hv : ∀ p ∈ vs, EO w n p.1 p.2) :
    Calls Tryd.prog 22 #[.slice (some ⟨s, 0, none⟩) vs.length cap] w fun e W' => ∃ v, e = .returned v ∧ EO W' (n + 1) v (vs.map (·.2)).flatten ∧ Below w.heap.size w W' := by
  obtain ⟨i0, hi, hz0, hz1, hz2⟩ := info_parts Tryd.info34
  have HC := Lib.hid hc
  have HV := Lib.hid hv
  clear hc hv
  go_enter Tryd.func22, Tryd.ntmps22
  go_wp2_with fail
  go_loopw [3, 8] (fun u i wr => ∃ (j : Nat) (a : Option Addr) (c : Nat), j ≤ vs.length ∧ i = .int .i64 j ∧ u = .slice a (there (vs.take j)).length c ∧ wr.ownsRow w.heap.size 34 1 u (there (vs.take j)).length (errVals ((there (vs.take j)).map (·.1))) ∧ Below w.heap.size w wr) (fun _ i _ => vs.length - (intOf i).toNat)
  case atStart => exact ⟨0, none, 0, Nat.zero_le _, rfl, rfl, World.ownsRow_nil _ _ _ _, Below.refl _ _⟩
  case round =>
    obtain ⟨j, a, c, hj, rfl, rfl, hown, hb⟩ := hrel
    by_cases hlt : j < vs.length
    · obtain ⟨⟨v, d⟩, hp1⟩ : ∃ p, vs[j]? = some p := ⟨vs[j], List.getElem?_eq_getElem hlt⟩
      have h0 := HC.out j (v, d) hp1
      have hs := World.block_lt_of_cell? w _ h0
      simp only at hs h0
      have c0 : wr.cell? ⟨s, j, none⟩ = some v := (hb.cell hs).trans h0
      have hmem : (v, d) ∈ vs := List.mem_of_getElem? hp1
      have htk : vs.take (j + 1) = vs.take j ++ [(v, d)] := by rw [List.take_add_one, hp1]; rfl
      have HO := Lib.hid hown
      have HT := Lib.hid htk
      clear h0 hp1 htk hown
      rcases HV.out (v, d) hmem with ⟨e1, e2⟩ | ⟨t, x, e1, e2⟩
      · simp only at e1 e2
        subst e1 e2
        go_wp2_with fail
        go_roundw
        case rel => exact ⟨j + 1, a, c, by omega, by go_num, by rw [HT.out, there_append]; simp [there], by rw [HT.out, there_append]; simpa [there] using HO.out, hb⟩
        case measure => simp [intOf]; omega
      · simp only at e1
        subst e1
        clear e2 hmem
        have hlen : (there (vs.take j)).length < 1000 := by
          have := there_length (vs.take j)
          rw [List.length_take] at this
          omega
        have hwr := hb.size
        have C3 : Hid (∀ u ∈ [Value.iface t x], u.oneCell' = true) := by intro u hu; obtain rfl := List.mem_singleton.1 hu; rfl
        have C4 : Hid ((there (vs.take j)).length + 1 ≤ maxLen) := by show _ ≤ _; unfold maxLen; omega
        go_wp2_with (at_builtin; refine wpList_append_own _ rfl _ _ 24 rfl w.heap.size 34 i0 .nilIface 1 16 Tryd.underlying24 hi hz0 hz1 hz2 rfl (by decide) (.slice a (there (vs.take j)).length c) _ _ rfl (HO.out.alloc _) ⟨wr.heap.size, 0, none⟩ 1 1 [.iface t x] rfl rfl (cell_one_new _ _ _) C3.out C4.out (by omega) (by simp; omega) ?_; intro v' w1 hown' hgrow _; obtain ⟨g', cap', rfl⟩ := ownsRow_succ hown')
        have hB1 : Below w.heap.size w w1 := (hb.alloc hb.size _).grown hgrow (by simp; omega) (fun k e => by
          rcases HO.out.2 with ⟨e1, _⟩ | ⟨g, cap, cur, e1, hbg, _⟩
          · rw [e1] at e; simp [Value.ownBlock] at e
          · rw [e1] at e
            obtain rfl : g = k := by simpa [Value.ownBlock] using e
            exact hbg)
        go_roundw
        case rel =>
          refine ⟨j + 1, some ⟨g', 0, none⟩, cap', by omega, by go_num, ?_, ?_, hB1⟩
          · rw [HT.out, there_append]; simp [there]
          · rw [HT.out, there_append]; simpa [there, errVals] using hown'
        case measure => simp [intOf]; omega
    · obtain rfl : j = vs.length := by omega
      rw [List.take_length] at hown
      obtain ⟨hE, hF⟩ := there_mem vs HV.out
      have HO := Lib.hid hown
      have HE := Lib.hid hE
      have HF := Lib.hid hF
      have HB := Lib.hid hb
      clear hE hF hown
      by_cases hz : there vs = []
      · have hl : (((there vs).length : Int) == 0) = true := by simp [hz]
        have HZ := Lib.hid hz
        clear hz
        go_wp2_with fail
        go_ret
        refine ⟨_, rfl, .inl ⟨rfl, ?_⟩, HB.out⟩
        rw [← HF.out, HZ.out]
        rfl
      · have hl : (((there vs).length : Int) == 0) = false := by simp [hz]
        have hp : 0 < (there vs).length := List.length_pos_iff.2 hz
        clear hz
        have hle := there_length vs
        have hH := HoldsErrs.of_owns (es := (there vs).map (·.1)) (by simpa using hp) HO.out
        obtain ⟨g, cap', e1, hg, _, hcells⟩ := hH
        simp only [Value.slice.injEq, List.length_map] at e1
        obtain ⟨rfl, _, rfl⟩ := e1
        have HC2 := Lib.hid hcells
        clear hcells
        go_wp2_with fail
        go_ret
        refine ⟨_, rfl, .inr ⟨78, _, rfl, ?_⟩, hb.alloc hb.size _⟩
        unfold Er
        refine .inr (.inr ⟨wr.heap.size, g, c, (there vs).map (·.1), (there vs).map (·.2), rfl, by simpa using hp, by simp; omega, by simp, by simp, fun j p hj => ?_, fun j p d hj hd => ?_, HF.out.symm⟩)
        · have h1 := HC2.out j p hj
          rw [World.cell?_alloc_lt _ _ _ (World.block_lt_of_cell? _ _ h1)]
          exact h1
        · obtain ⟨q, hq, rfl⟩ : ∃ q, (there vs)[j]? = some q ∧ q.1 = p := by simpa using hj
          obtain ⟨q', hq', rfl⟩ : ∃ q, (there vs)[j]? = some q ∧ q.2 = d := by simpa using hd
          obtain rfl : q = q' := by rw [hq] at hq'; exact Option.some.inj hq'
          exact (HE.out q (List.mem_of_getElem? hq)).below (HB.out.trans ((Below.refl _ _).alloc HB.out.size _))
end Go.Proofs.YtalopkplpbdgjaaDoor
