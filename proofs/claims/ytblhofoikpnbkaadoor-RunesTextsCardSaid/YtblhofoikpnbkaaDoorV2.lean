/- utf8.Valid's loop, a round by cases: what all cases share. -/
import Derived.Test.YtblhofoikpnbkaaDoorV1
import Derived.Shelf.Unicode.DecodeAny
import Derived.Lib.ValidAsc
import Derived.Laws.BitsAllLaws
import Derived.Deep.LoopGhost
import Derived.Deep.DeepMust
import Derived.BigQuiet
import Derived.Deep.CutBlock
import Derived.Deep.DeepCutAuto
namespace Go.Proofs.YtblhofoikpnbkaaDoor
open Go.RowKit Go.Shelf Go.Proofs

theorem Below.bt {w W : World} (h : Below w.heap.size w W) {g off : Nat} {t : ByteArray} (hb : Bt w g off t) (hg : g < w.heap.size) : Bt W g off t := hb.below hg h
set_option maxRecDepth 100000 in
theorem and7 : ∀ X : Fin 256, bits .and .u8 ((X.val : Nat) : Int) 7 = ((X.val % 8 : Nat) : Int) := by decide

/-- The first loop of a body. -/
def firstLoop : Code → Option Code
  | .loop c => some c
  | .seq a b => match firstLoop a with
    | some c => some c
    | none => firstLoop b
  | .block _ c => firstLoop c
  | .scope c => firstLoop c
  | .cond _ a b => match firstLoop a with
    | some c => some c
    | none => firstLoop b
  | _ => none
noncomputable def body31 : Code := ((Tryd.f31.body.bind firstLoop).getD .skip)
end Go.Proofs.YtblhofoikpnbkaaDoor
