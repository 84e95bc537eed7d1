/- StylesJoins: for every input the law returns true, and the input reads as it did. -/
import Derived.Test.YtgfmpndojjopnaaRv
import Derived.Test.YtgfmpndojjopnaaT3
namespace Go.Proofs.Ytgfmpndojjopnaa
open Go.ChangeShapes Go.WideShapes Go.ChangeAt Go.RowKit
namespace StylesJoins

set_option maxRecDepth 100000 in
theorem contract (H : Type) (enc : TypeId × Value → H) (W : World) (base : Nat) (args : Array Value) (ds gs : List (DataW H)) (before : List MemPlace)
    (hval : ∀ (j : Nat) t v, Try.f5.params[j]? = some t → args[j]? = some v → Value.okWide Try.prog W .any base t v)
    (hW : DataW.Whole enc Try.prog Try.f5.params.toList Rows.stylesJoinsSpec.vars false W args.toList ds gs before) (hZ : (DataW.weightsEach Try.prog (Try.f5.params.toList ++ Rows.stylesJoinsSpec.plain.varTypes Try.prog) (ds ++ gs)).all (· ≤ reachBytes) = true) :
    Calls Try.prog 5 args W fun e W' => ∃ v, e = .returned v ∧ Rows.stylesJoinsSpec.post enc Try.prog Try.f5 false true false false W args v W' := by
  have hW' := hW
  obtain ⟨p, q, hA0, hV, rfl, hfz, hnd⟩ := hW
  have hA : DataW.TrodAll enc Try.prog W 0 (fun _ => true) true Try.f5.params.toList args.toList ds p := hA0
  rw [Try.params5] at hA hval hZ
  obtain ⟨v0, vs0, d0, ds0, p0, q0, hargs, rfl, rfl, h0, r0⟩ := trodAll_cons hA
  obtain ⟨v1, vs1, d1, ds1, p1, q1, rfl, rfl, rfl, h1, r1⟩ := trodAll_cons r0
  obtain ⟨v2, vs2, d2, ds2, p2, q2, rfl, rfl, rfl, h2, r2⟩ := trodAll_cons r1
  obtain ⟨rfl, rfl, rfl⟩ := trodAll_nil r2
  obtain rfl : args = #[v0, v1, v2] := Array.ext' hargs
  obtain ⟨rfl, rfl⟩ := trodVars_none hV
  obtain ⟨l0, hs0, ok0, ml0⟩ := glyphs_open (hval 0 26 v0 rfl rfl) h0
  obtain ⟨l1, hs1, ok1, ml1⟩ := glyphs_open (hval 1 26 v1 rfl rfl) h1
  obtain ⟨l2, hs2, ok2, ml2⟩ := glyphs_open (hval 2 26 v2 rfl rfl) h2
  have hR := List.all_eq_true.1 hZ
  have m0 : l0.length ≤ 1000000000000000 := by
    obtain ⟨a0, c0, e0⟩ := hs0.len
    rw [e0] at h0
    exact glyphs_reach h0 (fun q hq => by
      have := hR q (List.mem_append_left _ hq)
      simpa using this)
  have m1 : l1.length ≤ 1000000000000000 := by
    obtain ⟨a1, c1, e1⟩ := hs1.len
    rw [e1] at h1
    exact glyphs_reach h1 (fun q hq => by
      have := hR q (List.mem_append_right _ (List.mem_append_left _ hq))
      simpa using this)
  have m2 : l2.length ≤ 1000000000000000 := by
    obtain ⟨a2, c2, e2⟩ := hs2.len
    rw [e2] at h2
    exact glyphs_reach h2 (fun q hq => by
      have := hR q (List.mem_append_right _ (List.mem_append_right _ (List.mem_append_left _ hq)))
      simpa using this)
  clear hA0
  have hlt : ∀ x : MemPlace, x ∈ p0 ++ (p1 ++ (p2 ++ ([]))) → x.block < W.heap.size := fun x hx => hW'.lt x (by simpa using hx)
  refine (joins_any l0 l1 l2 v0 v1 v2 W hs0 hs1 hs2 m0 m1 m2).mono fun e W' ⟨he, hb⟩ => ?_
  subst he
  refine ⟨_, rfl, _, _, _, [], p0 ++ (p1 ++ (p2 ++ ([]))), [], hW', ?_, ?_, ?_, hb.frame _, fun h => by cases h⟩
  · exact trodAll_mk1 (shut_bool Try.underlying4 true)
  · exact trodAll_cons_mk (hb.trod laidOut (by kernel_rfl) (of_decide_eq_true (by kernel_rfl)) h0 (fun x hx => hlt x (by simp [hx]))) (trodAll_cons_mk (hb.trod laidOut (by kernel_rfl) (of_decide_eq_true (by kernel_rfl)) h1 (fun x hx => hlt x (by simp [hx]))) (trodAll_cons_mk (hb.trod laidOut (by kernel_rfl) (of_decide_eq_true (by kernel_rfl)) h2 (fun x hx => hlt x (by simp [hx]))) (trodAll_mk0)))
  · rfl

set_option maxRecDepth 100000 in
theorem lifted (os : Os) (started : os.Started) (H : Type) (enc : TypeId × Value → H) :
    ReturnsInHanded {} Try.checked os 5 .any (Rows.stylesJoinsSpec.pre6 enc Try.prog Try.f5 Rows.stylesJoinsRow.domain false) (Rows.stylesJoinsSpec.post enc Try.prog Try.f5 false true false false) := by
  refine returnsInHanded_of_change_sized (C := Try.checked) own started (by kernel_rfl) Try.func5
    (ChangeSpec.witness6 (enc := enc) (C := Try.checked) false ⟨#[], #[.slice none 0 0, .slice none 0 0, .slice none 0 0], []⟩ 8 (by kernel_rfl) (by kernel_rfl) (by kernel_rfl) (by kernel_rfl)) ?_
  intro W base args ds gs before hval hW _ hZ _
  exact contract H enc W base args ds gs before hval hW hZ

end StylesJoins
/-- StylesJoins, for every input. -/
theorem stylesJoins_holds : Rows.StylesJoinsSaid :=
  OpenClaim.holds_of_wide 5 Try.f5 rfl rfl rfl rfl rfl rfl rfl ⟨rfl, rfl, rfl, rfl, rfl⟩ rfl rfl rfl rfl rfl (by kernel_rfl) Try.func5 (by kernel_rfl)
    (of_decide_eq_true (by kernel_rfl)) (by unfold Func.isWrapper; first | (rw [if_pos (by decide +kernel)]; kernel_rfl) | (rw [if_neg (by decide +kernel)]; exact ⟨rfl, rfl⟩))
    (fun os started H enc _ => StylesJoins.lifted os started H enc)
#print axioms stylesJoins_holds
end Go.Proofs.Ytgfmpndojjopnaa
