/- Short names of what is used most. -/
import Derived.OrdersHeld
import Derived.Tactics
import Derived.KernelRfl
import Derived.Lib.Hide
namespace Go.Proofs.YtebabjnngdjceaaGreatDoor
open Go.RowKit

theorem zT {α : Type} {xs : List α} {i : Nat} (h : i < xs.toArray.size) : xs.toArray[i] = xs[i]'(by simpa using h) := List.getElem_toArray h
theorem zZ {α : Type} {a : α} {as : List α} (h : 0 < (a :: as).length) : getElem (a :: as) 0 h = a := rfl
theorem zS {α : Type} {i : Nat} {a : α} {as : List α} (h : i + 1 < (a :: as).length) : getElem (a :: as) (i + 1) h = getElem as i (Nat.lt_of_succ_lt_succ h) := rfl
theorem yT {α : Type} (l : List α) (i : Nat) (a : α) : l.toArray.setIfInBounds i a = (l.set i a).toArray := List.setIfInBounds_toArray l i a
theorem yZ {α : Type} {x a : α} {xs : List α} : (x :: xs).set 0 a = a :: xs := rfl
theorem yS {α : Type} {i : Nat} {x a : α} {xs : List α} : (x :: xs).set (i + 1) a = x :: xs.set i a := rfl
theorem zH {p : Prop} (h : p) : Hid p := h
theorem zK {P : Program} {ops : Array Oper} {Q : Exit → Act → World → Prop} {md : Region.Mode} {S : World → Prop} {i : Nat} {oi : Oper} {v : Value} {fuel : Nat} {listed : Array Bool} {a : Act} {w : World} (hi : ops[i]? = some oi)
    (h : wpAnyH P md ops Q S fuel (listed.setIfInBounds i true) (a.put oi.dst v) w)
    (hs : Region.noSelect ops = true := by kernel_rfl) (hf : Region.free md ops listed i = true := by kernel_rfl) (hr : (Region.ready md ops listed).contains i = true := by kernel_rfl)
    (hQ : ∀ c a w, Q (.panic c) (a.put oi.dst v) w → Q (.panic c) a w := by exact fun _ _ _ h => h)
    (hy : YieldsIf P ops S oi v a := by exact Or.inl ⟨by rfl, fun w' hSw => by (try dsimp only at hSw); go_simp⟩) (hS : S w := by assumption) : wpAnyH P md ops Q S (fuel + 1) listed a w :=
  wpAnyH_take hi hs hf hr hQ hy hS h
end Go.Proofs.YtebabjnngdjceaaGreatDoor
