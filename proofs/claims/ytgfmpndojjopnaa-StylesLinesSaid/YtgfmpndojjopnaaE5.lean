/- The map of names; what is found in it; Name. -/
import Derived.Test.YtgfmpndojjopnaaE4
import Derived.StringKeys
namespace Go.Proofs.Ytgfmpndojjopnaa
open Go.RowKit

def NmsEnd (w : World) (e : Ending) (w' : World) : Prop := ∃ M, e = .returned (.map (some M)) ∧ w.heap.size ≤ M ∧ Nms w' M ∧ Below w.heap.size w w'
structure NmsAt (w W : World) (n : Nat) (D : DataW Unit) : Prop where
  own : W.ownsMap (H := Unit) Try.prog 9 (plainElem Try.prog 21) w.heap.size n D
  bel : Below w.heap.size w W
theorem NmsAt.next {w W W' : World} {n : Nat} {D D' : DataW Unit} (h : NmsAt w W n D) (ho : W'.ownsMap (H := Unit) Try.prog 9 (plainElem Try.prog 21) w.heap.size (n + 1) D') (hg : W.grownBy W' (some w.heap.size)) : NmsAt w W' (n + 1) D' :=
  ⟨ho, h.bel.grown hg h.bel.size (fun j e => by cases e; exact Nat.le_refl _)⟩
theorem nms_key (b : List UInt8) (hb : b.length ≤ 10) : keyOf Try.prog 9 (.string ⟨b.toArray⟩) = some (.string b) := by
  have := WideMaps.keyOf_string_mk (P := Try.prog) (k := 9) Try.underlying9 (s := ⟨b.toArray⟩) (by simp [Go.Lib.size_eq, maxLen]; omega)
  simpa using this

theorem wp_nm {w W : World} {n : Nat} {D : DataW Unit} {ops : Array Oper} {rest : List Oper} {o : Oper} {a : Act} {Q : Exit → Act → World → Prop} (h : NmsAt w W n D) (hg : o.guard = none) {b : List UInt8} {r : Int}
    (hop : o.op = Op.insert 59 (.tmp 1) (.const (.string ⟨b.toArray⟩)) (.const (.int .i32 r))) (hb : b.length ≤ 10) (hr : (Lit.int .i32 r).wf = true) (hn : n ≤ 1000) (hm : a.eval (.tmp 1) = .map (some w.heap.size))
    (hK : ∀ W', NmsAt w W' (n + 1) (D.put (.string b) (.lit (.int .i32 r))) → wpList Try.prog ops Q rest (a.put o.dst undef) W') : wpList Try.prog ops Q (o :: rest) a W :=
  wpList_insert_own W hg _ _ _ 59 hop 9 21 (Maps.string_keyed Try.underlying9) Try.underlying59 _ w.heap.size n D hm h.own (by unfold maxLen; omega) _ _ _ rfl rfl (nms_key b hb) _ [] (plainElem_int Try.underlying21 hr)
    (fun W' ho hg => hK W' (h.next ho hg))

set_option maxRecDepth 100000 in
set_option maxHeartbeats 4000000 in
theorem names_any (w : World) : Calls Try.prog 45 #[] w (NmsEnd w) := by
  have H0 : NmsAt w (w.alloc (.map #[] 0)) 0 (.map []) := ⟨World.ownsMap_made _ _ _ _, (Below.refl _ _).alloc (Nat.le_refl _) _⟩
  have hmm := @run_makeMap Try.prog
  go_enter Try.func45, Try.ntmps45
  go_wp2_with (refine wp_nm (by assumption) rfl rfl (by decide) (by decide) (by omega) rfl ?_; intro w1 h1)
  go_ret
  exact ⟨_, rfl, Nat.le_refl _, h1.own, h1.bel⟩

/-- What is found in it. -/
theorem look_nm {W : World} {M : Nat} (h : Nms W M) (b : List UInt8) (hb : b.length ≤ maxLen) :
    (Instr.lookup 59 (.map (some M)) (.string ⟨b.toArray⟩) true).run Try.prog W = .ok (.tuple #[.int .i32 ((nmLook nmTab b).getD 0), .bool (nmLook nmTab b).isSome]) W := by
  have hkey := WideMaps.keyOf_string_mk (P := Try.prog) (k := 9) Try.underlying9 (s := ⟨b.toArray⟩) (by simpa [Go.Lib.size_eq] using hb)
  obtain ⟨v, ps, hrun, hv⟩ := World.ownsMap.look_ok h (Maps.string_keyed Try.underlying9) Try.underlying59 (zero32 W) (plainElem_int Try.underlying21 (by decide)) hkey
  obtain ⟨c, rfl, hc, -⟩ := plainElem_int_inv Try.underlying21 hv
  have hc1 := congrArg Prod.fst hc
  rw [hrun]
  simp only at hc1
  rw [nmDat_at _ _ _ _ Maps.isMap_empty keysApart_tab] at hc1
  rw [nmDat_has _ _ _ Maps.isMap_empty]
  have h0 : Maps.has (.map [] : DataW Unit) (.string (⟨b.toArray⟩ : ByteArray).data.toList) = false := rfl
  rw [h0, Bool.false_or]
  simp only at hc1 ⊢
  cases hl : nmLook nmTab b with
  | none =>
    rw [hl] at hc1
    have : c = 0 := by
      have h1 : (DataW.lit (.int .i32 0) : DataW Unit) = .lit (.int .i32 c) := hc1
      injection h1 with h1
      injection h1 with _ h1
      exact h1.symm
    subst this
    rfl
  | some r =>
    rw [hl] at hc1
    have : c = r := by
      have h1 : (DataW.lit (.int .i32 r) : DataW Unit) = .lit (.int .i32 c) := hc1
      injection h1 with h1
      injection h1 with _ h1
      exact h1.symm
    subst this
    rfl

set_option maxHeartbeats 1000000 in
theorem find_any (b : List UInt8) (M : Nat) (w : World) (hm : Nms w M) (hb : b.length ≤ maxLen) :
    Calls Try.prog 46 #[.map (some M), .string ⟨b.toArray⟩] w fun e w' => e = .returned (.tuple #[.int .i32 ((nmOf b).getD 0), .bool (nmOf b).isSome]) ∧ Below w.heap.size w w' := by
  have hl := look_nm hm b hb
  have HN := Lib.hid (numbered_any b w hb)
  unfold nmOf
  cases he : nmLook nmTab b with
  | some r =>
    rw [he] at hl
    simp only [Option.getD_some, Option.isSome_some] at hl ⊢
    clear he HN hm
    go_enter Try.func46, Try.ntmps46
    go_wp2_with fail
    go_ret2
    exact ⟨rfl, Below.refl _ _⟩
  | none =>
    rw [he] at hl
    simp only [Option.getD_none, Option.isSome_none] at hl ⊢
    obtain ⟨N, hN⟩ : ∃ N, numOf b = N := ⟨_, rfl⟩
    rw [hN] at HN ⊢
    clear he hm hN
    go_enter Try.func46, Try.ntmps46
    go_wp2_with fail
    refine HN.out.mono ?_
    rintro e w1 ⟨rfl, b1⟩
    go_wp2_with fail
    go_ret2
    exact ⟨rfl, b1⟩

end Go.Proofs.Ytgfmpndojjopnaa
