/- StylesLines: for every input the law returns true, and the input reads as it did. -/
import Derived.Test.YtgfmpndojjopnaaRv
import Derived.Test.YtgfmpndojjopnaaT4
namespace Go.Proofs.Ytgfmpndojjopnaa
open Go.ChangeShapes Go.WideShapes Go.ChangeAt Go.RowKit
namespace StylesLines

set_option maxRecDepth 100000 in
theorem contract (H : Type) (enc : TypeId × Value → H) (W : World) (base : Nat) (args : Array Value) (ds gs : List (DataW H)) (before : List MemPlace)
    (hval : ∀ (j : Nat) t v, Try.f6.params[j]? = some t → args[j]? = some v → Value.okWide Try.prog W .any base t v)
    (hW : DataW.Whole enc Try.prog Try.f6.params.toList Rows.stylesLinesSpec.vars false W args.toList ds gs before) (hZ : (DataW.weightsEach Try.prog (Try.f6.params.toList ++ Rows.stylesLinesSpec.plain.varTypes Try.prog) (ds ++ gs)).all (· ≤ reachBytes) = true) :
    Calls Try.prog 6 args W fun e W' => ∃ v, e = .returned v ∧ Rows.stylesLinesSpec.post enc Try.prog Try.f6 false true false false W args v W' := by
  have hW' := hW
  obtain ⟨p, q, hA0, hV, rfl, hfz, hnd⟩ := hW
  have hA : DataW.TrodAll enc Try.prog W 0 (fun _ => true) true Try.f6.params.toList args.toList ds p := hA0
  rw [Try.params6] at hA hval hZ
  obtain ⟨v0, vs0, d0, ds0, p0, q0, hargs, rfl, rfl, h0, r0⟩ := trodAll_cons hA
  obtain ⟨v1, vs1, d1, ds1, p1, q1, rfl, rfl, rfl, h1, r1⟩ := trodAll_cons r0
  obtain ⟨v2, vs2, d2, ds2, p2, q2, rfl, rfl, rfl, h2, r2⟩ := trodAll_cons r1
  obtain ⟨v3, vs3, d3, ds3, p3, q3, rfl, rfl, rfl, h3, r3⟩ := trodAll_cons r2
  obtain ⟨rfl, rfl, rfl⟩ := trodAll_nil r3
  obtain rfl : args = #[v0, v1, v2, v3] := Array.ext' hargs
  obtain ⟨rfl, rfl⟩ := trodVars_none hV
  obtain ⟨k0, l0, rfl, rfl, rfl, wk0, wl0⟩ := open_face (hval 0 23 v0 rfl rfl) h0
  obtain ⟨l1, hs1, ok1, ml1⟩ := tokens_open (hval 1 24 v1 rfl rfl) h1
  obtain ⟨l2, hs2, ok2, ml2⟩ := tokens_open (hval 2 24 v2 rfl rfl) h2
  obtain ⟨s3, rfl, rfl, rfl, ws3⟩ := ChangeMaps.open_string Try.underlying9 (hval 3 9 v3 rfl rfl) h3
  have hR := List.all_eq_true.1 hZ
  have m1 : l1.length ≤ 1000000000000000 := by
    obtain ⟨a1, c1, e1⟩ := hs1.len
    rw [e1] at h1
    exact tokens_reach h1 (fun q hq => by
      have := hR q (List.mem_append_right _ (List.mem_append_left _ hq))
      simpa using this)
  have m2 : l2.length ≤ 1000000000000000 := by
    obtain ⟨a2, c2, e2⟩ := hs2.len
    rw [e2] at h2
    exact tokens_reach h2 (fun q hq => by
      have := hR q (List.mem_append_right _ (List.mem_append_right _ (List.mem_append_left _ hq)))
      simpa using this)
  clear hA0
  have hlt : ∀ x : MemPlace, x ∈ [] ++ (p1 ++ (p2 ++ ([] ++ ([])))) → x.block < W.heap.size := fun x hx => hW'.lt x (by simpa using hx)
  refine (lines6_any k0 l0 l1 l2 s3 v1 v2 W hs1 hs2 m1 m2).mono fun e W' ⟨he, hb⟩ => ?_
  subst he
  refine ⟨_, rfl, _, _, _, [], [] ++ (p1 ++ (p2 ++ ([] ++ ([])))), [], hW', ?_, ?_, ?_, hb.frame _, fun h => by cases h⟩
  · exact trodAll_mk1 (shut_bool Try.underlying4 true)
  · exact trodAll_cons_mk (shut_face wk0 wl0) (trodAll_cons_mk (hb.trod laidOut (by kernel_rfl) (of_decide_eq_true (by kernel_rfl)) h1 (fun x hx => hlt x (by simp [hx]))) (trodAll_cons_mk (hb.trod laidOut (by kernel_rfl) (of_decide_eq_true (by kernel_rfl)) h2 (fun x hx => hlt x (by simp [hx]))) (trodAll_cons_mk (ChangeMaps.shut_string Try.underlying9 ws3) (trodAll_mk0))))
  · rfl

set_option maxRecDepth 100000 in
theorem lifted (os : Os) (started : os.Started) (H : Type) (enc : TypeId × Value → H) :
    ReturnsInHanded {} Try.checked os 6 .any (Rows.stylesLinesSpec.pre6 enc Try.prog Try.f6 Rows.stylesLinesRow.domain false) (Rows.stylesLinesSpec.post enc Try.prog Try.f6 false true false false) := by
  refine returnsInHanded_of_change_sized (C := Try.checked) own started (by kernel_rfl) Try.func6
    (ChangeSpec.witness6 (enc := enc) (C := Try.checked) false ⟨#[], #[.agg #[.int .u8 0, .int .u8 0], .slice none 0 0, .slice none 0 0, .string .empty], []⟩ 8 (by kernel_rfl) (by kernel_rfl) (by kernel_rfl) (by kernel_rfl)) ?_
  intro W base args ds gs before hval hW _ hZ _
  exact contract H enc W base args ds gs before hval hW hZ

end StylesLines
/-- StylesLines, for every input. -/
theorem stylesLines_holds : Rows.StylesLinesSaid :=
  OpenClaim.holds_of_wide 6 Try.f6 rfl rfl rfl rfl rfl rfl rfl ⟨rfl, rfl, rfl, rfl, rfl⟩ rfl rfl rfl rfl rfl (by kernel_rfl) Try.func6 (by kernel_rfl)
    (of_decide_eq_true (by kernel_rfl)) (by unfold Func.isWrapper; first | (rw [if_pos (by decide +kernel)]; kernel_rfl) | (rw [if_neg (by decide +kernel)]; exact ⟨rfl, rfl⟩))
    (fun os started H enc _ => StylesLines.lifted os started H enc)
#print axioms stylesLines_holds
end Go.Proofs.Ytgfmpndojjopnaa
