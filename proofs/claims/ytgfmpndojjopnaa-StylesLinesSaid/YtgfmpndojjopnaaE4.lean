/- Fonts; the map of names, what is found in it; a name's rune. -/
import Derived.Test.YtgfmpndojjopnaaE3
import Derived.Maps.OwnSet
import Derived.Maps.Own
import Derived.Maps.Views
import Derived.Maps.AppendAt
namespace Go.Proofs.Ytgfmpndojjopnaa
open Go.RowKit

theorem beq_no {b c : List UInt8} (h : ¬ b = c) : (b == c) = false := by simpa using h
set_option maxHeartbeats 1000000 in
theorem font_any (b : List UInt8) (w : World) :
    Calls Try.prog 47 #[.string ⟨b.toArray⟩] w fun e w' => e = .returned (.tuple #[.int .i32 ((ftOf b).getD 0), .bool (ftOf b).isSome]) ∧ w = w' := by
  by_cases c : b ∈ [[82], [49], [66], [50], [73], [51], [66, 73], [52], [80]]
  · simp only [List.mem_cons, List.not_mem_nil, or_false] at c
    rcases c with rfl | rfl | rfl | rfl | rfl | rfl | rfl | rfl | rfl
    all_goals
      go_enter Try.func47, Try.ntmps47
      go_wp2
      go_ret2
      exact ⟨rfl, rfl⟩
  · simp only [List.mem_cons, List.not_mem_nil, or_false, not_or] at c
    obtain ⟨c1, c2, c3, c4, c5, c6, c7, c8, c9⟩ := c
    have e : ftOf b = none := by
      unfold ftOf
      rw [if_neg (by rintro (h | h); exact c1 h; exact c2 h), if_neg (by rintro (h | h); exact c3 h; exact c4 h), if_neg (by rintro (h | h); exact c5 h; exact c6 h), if_neg (by rintro (h | h); exact c7 h; exact c8 h), if_neg c9]
    rw [e]
    have d1 := beq_no c1
    have d2 := beq_no c2
    have d3 := beq_no c3
    have d4 := beq_no c4
    have d5 := beq_no c5
    have d6 := beq_no c6
    have d7 := beq_no c7
    have d8 := beq_no c8
    have d9 := beq_no c9
    clear c1 c2 c3 c4 c5 c6 c7 c8 c9 e
    simp only [Option.getD_none, Option.isSome_none]
    go_enter Try.func47, Try.ntmps47
    go_wp2
    go_ret2
    exact ⟨rfl, rfl⟩

/-- 'map[K]V{..}': one entry more. -/
theorem wpList_insert_own {H : Type} {P : Program} (w : World) {ops : Array Oper} {rest : List Oper} {o : Oper} {a : Act} {Q : Exit → Act → World → Prop}
    (hg : o.guard = none) (m x v : Operand) (t : TypeId) (hop : o.op = Op.insert t m x v)
    (k e : TypeId) (K : Maps.Keyed P k) (ht : P.underlying t = some (.map k e)) (R : Value → Option (DataW H × List MemPlace)) (b n : Nat) (D : DataW H)
    (hm : a.eval m = .map (some b)) (hown : w.ownsMap P k R b n D) (hn : n < maxLen) (key val : Value) (kl : Lit) (hx : a.eval x = key) (hv : a.eval v = val) (hkey : keyOf P k key = some kl)
    (d : DataW H) (ps : List MemPlace) (hval : R val = some (d, ps))
    (hK : ∀ w', w'.ownsMap P k R b (n + 1) (D.put kl d) → w.grownBy w' (some b) → wpList P ops Q rest (a.put o.dst undef) w') :
    wpList P ops Q (o :: rest) a w := by
  refine wpList_plain hg fun K' hK' => ?_
  obtain ⟨w', hrun, r1, r2⟩ := hown.update K ht hn hkey hval
  unfold Oper.wp
  simp [execOp, hop, hm, hx, hv, hrun, Result.andThen]
  exact hK' _ _ (hK w' r1 r2)

/-- The datum of a map of these entries. -/
def nmDat (l : List (List UInt8 × Int)) (D : DataW Unit) : DataW Unit := l.foldl (fun D p => D.put (.string p.1) (.lit (.int .i32 p.2))) D
def keysApart : List (List UInt8 × Int) → Bool
  | [] => true
  | p :: l => (nmLook l p.1).isNone && keysApart l
theorem keysApart_tab : keysApart nmTab = true := by decide +kernel
theorem nmDat_has : ∀ (l : List (List UInt8 × Int)) (D : DataW Unit) (b : List UInt8), Maps.IsMap D → Maps.has (nmDat l D) (.string b) = (Maps.has D (.string b) || (nmLook l b).isSome)
  | [], D, b, _ => by simp [nmDat, nmLook]
  | p :: l, D, b, h => by
    have ih := nmDat_has l (D.put (.string p.1) (.lit (.int .i32 p.2))) b (h.put _ _)
    have e : nmDat (p :: l) D = nmDat l (D.put (.string p.1) (.lit (.int .i32 p.2))) := rfl
    rw [e, ih]
    by_cases hp : p.1 = b
    · subst hp
      rw [Maps.has_put_same h (by trivial)]
      simp [nmLook]
    · rw [Maps.has_put_other (fun h => hp (by injection h with h; exact h.symm))]
      simp [nmLook, hp]
theorem nmDat_at : ∀ (l : List (List UInt8 × Int)) (D : DataW Unit) (b : List UInt8) (z : DataW Unit), Maps.IsMap D → keysApart l = true → (nmDat l D).atKey (.string b) z = match nmLook l b with
    | some r => .lit (.int .i32 r)
    | none => D.atKey (.string b) z
  | [], D, b, z, _, _ => by simp [nmDat, nmLook]
  | p :: l, D, b, z, h, hk => by
    unfold keysApart at hk
    simp only [Bool.and_eq_true] at hk
    have ih := nmDat_at l (D.put (.string p.1) (.lit (.int .i32 p.2))) b z (h.put _ _) hk.2
    have e : nmDat (p :: l) D = nmDat l (D.put (.string p.1) (.lit (.int .i32 p.2))) := rfl
    rw [e, ih]
    by_cases hp : p.1 = b
    · subst hp
      have h0 : nmLook l p.1 = none := by simpa using hk.1
      rw [h0, Maps.atKey_put_same h (by trivial)]
      simp [nmLook]
    · rw [Maps.atKey_put_other (fun h => hp (by injection h with h; exact h.symm))]
      simp [nmLook, hp]

theorem zero32 (w : World) : (zeroValue 21).run Try.prog w = .ok (.int .i32 0) w := by kernel_rfl
/-- The map of names, in a block. -/
def Nms (W : World) (M : Nat) : Prop := W.ownsMap (H := Unit) Try.prog 9 (plainElem Try.prog 21) M 30 (nmDat nmTab (.map []))
theorem Nms.keep {W W' : World} {M : Nat} (h : Nms W M) (hb : Below W.heap.size W W') : Nms W' M := by
  have hlt := h.lt
  obtain ⟨es, clock, hh, r⟩ := h
  exact ⟨es, clock, (hb.block M hlt).trans hh, r⟩
end Go.Proofs.Ytgfmpndojjopnaa
