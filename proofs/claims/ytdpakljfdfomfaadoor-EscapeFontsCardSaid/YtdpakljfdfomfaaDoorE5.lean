/- The map of names; what is found in it; Name. -/
import Derived.Test.YtdpakljfdfomfaaDoorE4
import Derived.StringKeys
namespace Go.Proofs.YtdpakljfdfomfaaDoor
open Go.RowKit

def NmsEnd (w : World) (e : Ending) (w' : World) : Prop := ∃ M, e = .returned (.map (some M)) ∧ w.heap.size ≤ M ∧ Nms w' M ∧ Below w.heap.size w w'
structure NmsAt (w W : World) (n : Nat) (D : DataW Unit) : Prop where
  own : W.ownsMap (H := Unit) Tryd.prog 9 (plainElem Tryd.prog 21) w.heap.size n D
  bel : Below w.heap.size w W
theorem NmsAt.next {w W W' : World} {n : Nat} {D D' : DataW Unit} (h : NmsAt w W n D) (ho : W'.ownsMap (H := Unit) Tryd.prog 9 (plainElem Tryd.prog 21) w.heap.size (n + 1) D') (hg : W.grownBy W' (some w.heap.size)) : NmsAt w W' (n + 1) D' :=
  ⟨ho, h.bel.grown hg h.bel.size (fun j e => by cases e; exact Nat.le_refl _)⟩
theorem nms_key (b : List UInt8) (hb : b.length ≤ 10) : keyOf Tryd.prog 9 (.string ⟨b.toArray⟩) = some (.string b) := by
  have := WideMaps.keyOf_string_mk (P := Tryd.prog) (k := 9) Tryd.underlying9 (s := ⟨b.toArray⟩) (by simp [Go.Lib.size_eq, maxLen]; omega)
  simpa using this

theorem wp_nm {w W : World} {n : Nat} {D : DataW Unit} {ops : Array Oper} {rest : List Oper} {o : Oper} {a : Act} {Q : Exit → Act → World → Prop} (h : NmsAt w W n D) (hg : o.guard = none) {b : List UInt8} {r : Int}
    (hop : o.op = Op.insert 46 (.tmp 1) (.const (.string ⟨b.toArray⟩)) (.const (.int .i32 r))) (hb : b.length ≤ 10) (hr : (Lit.int .i32 r).wf = true) (hn : n ≤ 1000) (hm : a.eval (.tmp 1) = .map (some w.heap.size))
    (hK : ∀ W', NmsAt w W' (n + 1) (D.put (.string b) (.lit (.int .i32 r))) → wpList Tryd.prog ops Q rest (a.put o.dst undef) W') : wpList Tryd.prog ops Q (o :: rest) a W :=
  wpList_insert_own W hg _ _ _ 46 hop 9 21 (Maps.string_keyed Tryd.underlying9) Tryd.underlying46 _ w.heap.size n D hm h.own (by unfold maxLen; omega) _ _ _ rfl rfl (nms_key b hb) _ [] (plainElem_int Tryd.underlying21 hr)
    (fun W' ho hg => hK W' (h.next ho hg))

set_option maxRecDepth 100000 in
set_option maxHeartbeats 4000000 in
theorem names_any (w : World) : Calls Tryd.prog 34 #[] w (NmsEnd w) := by
  have H0 : NmsAt w (w.alloc (.map #[] 0)) 0 (.map []) := ⟨World.ownsMap_made _ _ _ _, (Below.refl _ _).alloc (Nat.le_refl _) _⟩
  have hmm := @run_makeMap Tryd.prog
  go_enter Tryd.func34, Tryd.ntmps34
  go_wp2_with (refine wp_nm (by assumption) rfl rfl (by decide) (by decide) (by omega) rfl ?_; intro w1 h1)
  go_ret
  exact ⟨_, rfl, Nat.le_refl _, h1.own, h1.bel⟩

/-- What is found in it. -/
theorem look_nm {W : World} {M : Nat} (h : Nms W M) (b : List UInt8) (hb : b.length ≤ maxLen) :
    (Instr.lookup 46 (.map (some M)) (.string ⟨b.toArray⟩) true).run Tryd.prog W = .ok (.tuple #[.int .i32 ((nmLook nmTab b).getD 0), .bool (nmLook nmTab b).isSome]) W := by
  have hkey := WideMaps.keyOf_string_mk (P := Tryd.prog) (k := 9) Tryd.underlying9 (s := ⟨b.toArray⟩) (by simpa [Go.Lib.size_eq] using hb)
  obtain ⟨v, ps, hrun, hv⟩ := World.ownsMap.look_ok h (Maps.string_keyed Tryd.underlying9) Tryd.underlying46 (zero32 W) (plainElem_int Tryd.underlying21 (by decide)) hkey
  obtain ⟨c, rfl, hc, -⟩ := plainElem_int_inv Tryd.underlying21 hv
  have hc1 := congrArg Prod.fst hc
  rw [hrun]
  simp only at hc1
  rw [nmDat_at _ _ _ _ Maps.isMap_empty keysApart_tab] at hc1
  rw [nmDat_has _ _ _ Maps.isMap_empty]
  have h0 : Maps.has (.map [] : DataW Unit) (.string (⟨b.toArray⟩ : ByteArray).data.toList) = false := rfl
  rw [h0, Bool.false_or]
  simp only at hc1 ⊢
  cases hl : nmLook nmTab b with
  | none =>
    rw [hl] at hc1
    have : c = 0 := by
      have h1 : (DataW.lit (.int .i32 0) : DataW Unit) = .lit (.int .i32 c) := hc1
      injection h1 with h1
      injection h1 with _ h1
      exact h1.symm
    subst this
    rfl
  | some r =>
    rw [hl] at hc1
    have : c = r := by
      have h1 : (DataW.lit (.int .i32 r) : DataW Unit) = .lit (.int .i32 c) := hc1
      injection h1 with h1
      injection h1 with _ h1
      exact h1.symm
    subst this
    rfl

set_option maxHeartbeats 1000000 in
theorem find_any (b : List UInt8) (M : Nat) (w : World) (hm : Nms w M) (hb : b.length ≤ maxLen) :
    Calls Tryd.prog 33 #[.map (some M), .string ⟨b.toArray⟩] w fun e w' => e = .returned (.tuple #[.int .i32 ((nmOf b).getD 0), .bool (nmOf b).isSome]) ∧ Below w.heap.size w w' := by
  have hl := look_nm hm b hb
  have HN := Lib.hid (numbered_any b w hb)
  unfold nmOf
  cases he : nmLook nmTab b with
  | some r =>
    rw [he] at hl
    simp only [Option.getD_some, Option.isSome_some] at hl ⊢
    clear he HN hm
    go_enter Tryd.func33, Tryd.ntmps33
    go_wp2_with fail
    go_ret2
    exact ⟨rfl, Below.refl _ _⟩
  | none =>
    rw [he] at hl
    simp only [Option.getD_none, Option.isSome_none] at hl ⊢
    obtain ⟨N, hN⟩ : ∃ N, numOf b = N := ⟨_, rfl⟩
    rw [hN] at HN ⊢
    clear he hm hN
    go_enter Tryd.func33, Tryd.ntmps33
    go_wp2_with fail
    refine HN.out.mono ?_
    rintro e w1 ⟨rfl, b1⟩
    go_wp2_with fail
    go_ret2
    exact ⟨rfl, b1⟩

set_option maxHeartbeats 1000000 in
theorem name_any (b : List UInt8) (w : World) (hb : b.length ≤ maxLen) :
    Calls Tryd.prog 15 #[.string ⟨b.toArray⟩] w fun e w' => e = .returned (.tuple #[.int .i32 ((nmOf b).getD 0), .bool (nmOf b).isSome]) ∧ Below w.heap.size w w' := by
  have HN := Lib.hid (names_any w)
  have HF := Lib.hid (fun M W (h : Nms W M) => find_any b M W h hb)
  obtain ⟨N, hN⟩ : ∃ N, nmOf b = N := ⟨_, rfl⟩
  rw [hN] at HF ⊢
  clear hN
  go_enter Tryd.func15, Tryd.ntmps15
  go_wp2_with fail
  refine HN.out.mono ?_
  rintro e w1 ⟨M, rfl, hM, hm, b1⟩
  have HF' := Lib.hid (HF.out M w1 hm)
  have z1 := b1.size
  clear hm HF HN hM
  go_wp2_with fail
  refine HF'.out.mono ?_
  rintro e w2 ⟨rfl, b2⟩
  have B := Lib.hid (b1.trans (b2.mono z1))
  clear b1 b2
  go_wp2_with fail
  go_ret2
  exact ⟨rfl, B.out⟩
end Go.Proofs.YtdpakljfdfomfaaDoor
