/- slices.Clone of texts: the shelf's contract, laid at this dump. (The numbers of the lays are this seat's own: tools/shelf5b.py.) -/
import Derived.Shelf.Slices.Clone
import Derived.Test.YteckiifnldcjbaaDoorK4
namespace Go.Proofs.YteckiifnldcjbaaDoor
open Go.Shelf Go.RowKit Go.Lib

def laysNm216Ren : Go.Shelf.Ren := ⟨fun | 16 => 75 | n => n, fun | 24 => 23 | 9 => 9 | 4 => 4 | n => n, fun | n => n⟩
theorem laysNm216 : Go.Proofs.Lays2.n16 Tryd.prog laysNm216Ren := {
  mixed := by kernel_rfl
  f16 := Tryd.func75.trans (congrArg some (by kernel_rfl))
  t4 := Tryd.underlying4
  a4 := Tryd.isAgg4
  z4 := Tryd.sizeOf4
  v4 := Tryd.zeroValue4
  t9 := Tryd.underlying9
  a9 := Tryd.isAgg9
  z9 := Tryd.sizeOf9
  v9 := Tryd.zeroValue9
  t24 := Tryd.underlying23
  a24 := Tryd.isAgg23
  z24 := Tryd.sizeOf23
  v24 := Tryd.zeroValue23
  i9 := by kernel_rfl }
theorem clone_any {v : Value} {l : List (List UInt8)} (w : World) (h : Ss w v l) (h1 : 0 < l.length) (hl : l.length ≤ 100000) :
    Calls Tryd.prog 75 #[v] w fun e w' => ∃ v', e = .returned v' ∧ SOwn w.heap.size w' v' l ∧ Below w.heap.size w w' := by
  obtain ⟨a, cap, rfl, hc, hr⟩ := h
  obtain ⟨x, hx⟩ : ∃ x, l[0]? = some x := ⟨l[0], List.getElem?_eq_getElem h1⟩
  obtain ⟨b, off, rfl, -⟩ := hr 0 x hx
  have hz : (l.map fun b : List UInt8 => (⟨b.toArray⟩ : ByteArray)).length = l.length := by simp
  refine (Any.slices_Clone_string laysNm216 b off l.length cap (l.map fun b : List UInt8 => (⟨b.toArray⟩ : ByteArray)) w (by rw [hz]; exact Nat.le_refl _) (by omega) (fun j hj => ?_)).mono ?_
  · rw [hz] at hj
    obtain ⟨b', off', e, h0⟩ := hr j l[j] (List.getElem?_eq_getElem hj)
    cases e
    have := h0 0 _ rfl
    rw [Nat.mul_one, Nat.add_zero] at this
    rw [this]
    simp [List.getD, hj]
  · rintro e w' ⟨v', rfl, ho, -, hb⟩
    refine ⟨v', rfl, ?_, hb⟩
    have e2 : ((l.map fun b : List UInt8 => (⟨b.toArray⟩ : ByteArray)).take l.length).map Value.string = flatV scell l := by
      rw [List.take_of_length_le (by rw [hz]; exact Nat.le_refl _), List.map_map]
      clear ho hr hx hz h1 hl hc
      induction l with
      | nil => rfl
      | cons c t ih =>
        rw [flatV_cons, List.map_cons, ih]
        rfl
    rw [e2] at ho
    exact ho
end Go.Proofs.YteckiifnldcjbaaDoor
