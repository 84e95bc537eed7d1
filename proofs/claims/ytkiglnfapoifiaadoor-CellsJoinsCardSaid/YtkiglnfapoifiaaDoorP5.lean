/- CellsJoins: for every input the law returns true, and the input reads as it did; the listed variables are tied to the program's text. -/
import Derived.Test.YtkiglnfapoifiaaDoorRh
import Derived.Test.YtkiglnfapoifiaaDoorL5
namespace Go.Proofs.YtkiglnfapoifiaaDoor
open Go.ChangeShapes Go.WideShapes Go.ChangeAt Go.RowKit
namespace CellsJoins

set_option maxRecDepth 100000 in
theorem contract (H : Type) (enc : TypeId × Value → H) (W : World) (base : Nat) (args : Array Value) (ds gs : List (DataW H)) (before : List MemPlace)
    (hval : ∀ (j : Nat) t v, Tryd.f8.params[j]? = some t → args[j]? = some v → Value.okWide Tryd.prog W .any base t v)
    (hW : DataW.Whole enc Tryd.prog Tryd.f8.params.toList Rows.cellsJoinsSpec.vars false W args.toList ds gs before) (hZ : (DataW.weightsEach Tryd.prog (Tryd.f8.params.toList ++ (OpenSpec.ofChange Rows.cellsJoinsSpec).bare.plain.varTypes Tryd.prog) (ds ++ gs)).all (· ≤ reachBytes) = true) (hL : laidMetH Tryd.prog Rows.cellsJoinsRow.laid W) :
    Calls Tryd.prog 8 args W fun e W' => ∃ v, e = .returned v ∧ Rows.cellsJoinsSpec.post enc Tryd.prog Tryd.f8 false true false false W args v W' := by
  have hW' := hW
  obtain ⟨p, q, hA0, hV, rfl, hfz, hnd⟩ := hW
  have hA : DataW.TrodAll enc Tryd.prog W 0 (fun _ => true) true Tryd.f8.params.toList args.toList ds p := hA0
  rw [Tryd.params8] at hA hval hZ
  obtain ⟨v0, vs0, d0, ds0, p0, q0, hargs, rfl, rfl, h0, r0⟩ := trodAll_cons hA
  obtain ⟨v1, vs1, d1, ds1, p1, q1, rfl, rfl, rfl, h1, r1⟩ := trodAll_cons r0
  obtain ⟨v2, vs2, d2, ds2, p2, q2, rfl, rfl, rfl, h2, r2⟩ := trodAll_cons r1
  obtain ⟨v3, vs3, d3, ds3, p3, q3, rfl, rfl, rfl, h3, r3⟩ := trodAll_cons r2
  obtain ⟨v4, vs4, d4, ds4, p4, q4, rfl, rfl, rfl, h4, r4⟩ := trodAll_cons r3
  obtain ⟨rfl, rfl, rfl⟩ := trodAll_nil r4
  obtain rfl : args = #[v0, v1, v2, v3, v4] := Array.ext' hargs
  obtain ⟨rfl, rfl⟩ := trodVars_none hV
  obtain ⟨s0, rfl, rfl, rfl, ws0⟩ := ChangeMaps.open_string Tryd.underlying9 (hval 0 9 v0 rfl rfl) h0
  obtain ⟨s1, rfl, rfl, rfl, ws1⟩ := ChangeMaps.open_string Tryd.underlying9 (hval 1 9 v1 rfl rfl) h1
  obtain ⟨n2, rfl, rfl, rfl, wn2⟩ := open_int Tryd.underlying5 (hval 2 5 v2 rfl rfl) h2
  obtain ⟨l3, hs3, ok3, ml3⟩ := glyphs_open (hval 3 22 v3 rfl rfl) h3
  obtain ⟨l4, hs4, ok4, ml4⟩ := glyphs_open (hval 4 22 v4 rfl rfl) h4
  have hR := List.all_eq_true.1 hZ
  have m0 : s0.size ≤ 1000000000000000 := by
    have := hR _ (List.mem_append_left _ (show s0.data.toList.length ∈ DataW.weights Tryd.prog 9 (.lit (.string s0.data.toList) : DataW H) by simp [DataW.weights]))
    have h2 : s0.data.toList.length ≤ reachBytes := of_decide_eq_true this
    unfold reachBytes at h2
    rw [Lib.size_eq]
    omega
  have m1 : s1.size ≤ 1000000000000000 := by
    have := hR _ (List.mem_append_right _ (List.mem_append_left _ (show s1.data.toList.length ∈ DataW.weights Tryd.prog 9 (.lit (.string s1.data.toList) : DataW H) by simp [DataW.weights])))
    have h2 : s1.data.toList.length ≤ reachBytes := of_decide_eq_true this
    unfold reachBytes at h2
    rw [Lib.size_eq]
    omega
  have m3 : l3.length ≤ 1000000000000000 := by
    obtain ⟨a3, c3, e3⟩ := hs3.len
    rw [e3] at h3
    exact glyphs_reach h3 (fun q hq => by
      have := hR q (List.mem_append_right _ (List.mem_append_right _ (List.mem_append_right _ (List.mem_append_left _ hq))))
      simpa using this)
  have m4 : l4.length ≤ 1000000000000000 := by
    obtain ⟨a4, c4, e4⟩ := hs4.len
    rw [e4] at h4
    exact glyphs_reach h4 (fun q hq => by
      have := hR q (List.mem_append_right _ (List.mem_append_right _ (List.mem_append_right _ (List.mem_append_right _ (List.mem_append_left _ hq)))))
      simpa using this)
  clear hA0
  have hlt : ∀ x : MemPlace, x ∈ [] ++ ([] ++ ([] ++ (p3 ++ (p4 ++ ([]))))) → x.block < W.heap.size := fun x hx => hW'.lt x (by simpa using hx)
  refine (joins_any s0 s1 n2 l3 l4 v3 v4 W (tabs_of_laid2 hL) hs3 hs4 m0 m1 m3 m4).mono fun e W' ⟨he, hb⟩ => ?_
  subst he
  refine ⟨_, rfl, _, _, _, [], [] ++ ([] ++ ([] ++ (p3 ++ (p4 ++ ([]))))), [], hW', ?_, ?_, ?_, hb.frame _, fun h => by cases h⟩
  · exact trodAll_mk1 (shut_bool Tryd.underlying4 true)
  · exact trodAll_cons_mk (ChangeMaps.shut_string Tryd.underlying9 ws0) (trodAll_cons_mk (ChangeMaps.shut_string Tryd.underlying9 ws1) (trodAll_cons_mk (shut_int Tryd.underlying5 wn2) (trodAll_cons_mk (hb.trod laidOut (by kernel_rfl) (of_decide_eq_true (by kernel_rfl)) h3 (fun x hx => hlt x (by simp [hx]))) (trodAll_cons_mk (hb.trod laidOut (by kernel_rfl) (of_decide_eq_true (by kernel_rfl)) h4 (fun x hx => hlt x (by simp [hx]))) (trodAll_mk0)))))
  · rfl

theorem reads (os : Os) {H : Type} (enc : TypeId × Value → H) : ∃ places, DataW.whole enc Tryd.prog ((laidWorld os).forCall (fun _ _ => 0) ⟨#[], #[.string .empty, .string .empty, .int .u8 0, .slice none 0 0, .slice none 0 0], []⟩).memory Tryd.f8.params.toList Rows.cellsJoinsSpec.vars false (#[.string .empty, .string .empty, .int .u8 0, .slice none 0 0, .slice none 0 0] : Array Value).toList 8 = some ([.lit (.string []), .lit (.string []), .lit (.int .u8 0), .nil, .nil], [], places) :=
  ⟨[], by kernel_rfl⟩

set_option maxRecDepth 100000 in
theorem lifted (os : Os) (started : os.Started) (H : Type) (enc : TypeId × Value → H) (F : Stop.Interp) :
    ReturnsInHanded {} Tryd.checked os 8 .any ((OpenSpec.ofChange Rows.cellsJoinsSpec).preRow enc Tryd.prog Tryd.f8 Rows.cellsJoinsRow.domain false Rows.cellsJoinsRow.laid) (((OpenSpec.ofChange Rows.cellsJoinsSpec).at F).post enc Tryd.prog Tryd.f8 false true false false) := by
  obtain ⟨places, hx⟩ := reads os enc
  refine returnsInHanded_of_row (C := Tryd.checked) (s := OpenSpec.ofChange Rows.cellsJoinsSpec) own started (by kernel_rfl) Tryd.func8
    (witness_row_at (enc := enc) (C := Tryd.checked) false (laidWorld os) #[.string .empty, .string .empty, .int .u8 0, .slice none 0 0, .slice none 0 0] rfl (by kernel_rfl) (by kernel_rfl) (by kernel_rfl)
      (OpenSpec.preRow_of_cond 8 hx (by kernel_rfl) (fun k hk => by cases hk) (by kernel_rfl) (laid_met2 os _))) ?_
  intro W base args ds gs before hval hW _ _ hZ hL _ _
  exact contract H enc W base args ds gs before hval hW hZ hL

theorem said : Rows.CellsJoinsSaid :=
  OpenClaim.holds_of_cond 8 Tryd.f8 rfl rfl rfl rfl rfl rfl rfl ⟨rfl, rfl, rfl, rfl, rfl⟩ rfl rfl rfl rfl rfl (by kernel_rfl) Tryd.func8 (by kernel_rfl)
    (of_decide_eq_true (by kernel_rfl)) (by unfold Func.isWrapper; first | (rw [if_pos (by decide +kernel)]; kernel_rfl) | (rw [if_neg (by decide +kernel)]; exact ⟨rfl, rfl⟩))
    (fun os started H enc _ F => by rw [OpenClaim.pre_eq_preRow]; exact lifted os started H enc F)

theorem plain (f : FuncId) (fn : Func) (hf : Tryd.pinned.checked.prog.funcNamed "flong/flonglaw03.CellsJoins" = some f) (hfn : Tryd.pinned.checked.prog.funcs[f]? = some fn) :
    false = Tryd.pinned.checked.prog.looks [] ∧ ∀ (j : Nat) t, fn.params[j]? = some t → Tryd.pinned.checked.prog.wantsStandIn t = false := by
  obtain rfl : f = 8 := Option.some.inj ((show Tryd.prog.funcNamed "flong/flonglaw03.CellsJoins" = some 8 by kernel_rfl).symm.trans hf) |>.symm
  obtain rfl : fn = Tryd.f8 := (Option.some.inj (Tryd.func8.symm.trans hfn)).symm
  refine ⟨by kernel_rfl, fun j t ht => ?_⟩
  rw [Tryd.params8] at ht
  have hm := Array.mem_of_getElem? ht
  simp at hm
  rcases hm with rfl | rfl | rfl
  · exact (show Tryd.prog.wantsStandIn 9 = false by kernel_rfl)
  · exact (show Tryd.prog.wantsStandIn 5 = false by kernel_rfl)
  · exact (show Tryd.prog.wantsStandIn 22 = false by kernel_rfl)

end CellsJoins
/-- The tied card of CellsJoins. -/
theorem cellsJoins_card : Rows.CellsJoinsCardSaid :=
  Claim7.holds_tied_plain_at .later [] _ _ _ _ CellsJoins.said (fun _ h => by cases h) (by kernel_rfl) (fun _ h => by cases h) cellsJoins_row_tie rfl ⟨rfl, rfl⟩ (by kernel_rfl) rfl CellsJoins.plain (by kernel_rfl)
#print axioms cellsJoins_card
end Go.Proofs.YtkiglnfapoifiaaDoor
