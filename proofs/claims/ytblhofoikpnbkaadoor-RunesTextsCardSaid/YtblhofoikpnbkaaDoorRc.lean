/- The two tables of unicode/utf8 as the rows list them. -/
import Derived.Test.YtblhofoikpnbkaaDoorRb
import Derived.Shelf.Unicode.DecodeAny
namespace Go.Proofs.YtblhofoikpnbkaaDoor
open Go.ChangeShapes Go.WideShapes Go.ChangeAt Go.RowKit

theorem cells45 : Tryd.prog.cellsOf 45 = 256 := by kernel_rfl
theorem cells47 : Tryd.prog.cellsOf 47 = 2 := by kernel_rfl
theorem gFirst : Tryd.prog.globalNamed "unicode/utf8.first" = some 0 := by kernel_rfl
theorem gAccept : Tryd.prog.globalNamed "unicode/utf8.acceptRanges" = some 1 := by kernel_rfl
theorem yFirst : (Tryd.prog.globals[0]?).map (·.type) = some 45 := by kernel_rfl
theorem yAccept : (Tryd.prog.globals[1]?).map (·.type) = some 48 := by kernel_rfl
theorem acceptD : Rows.laid_unicode_utf8_acceptRanges = Lib.acceptData := by kernel_rfl
theorem firstD : Rows.laid_unicode_utf8_first = Lib.firstData := Pinned.utf8First_eq

set_option maxRecDepth 100000 in
theorem u8_of_reads {w : World} (h3 : Lib.VarReads Tryd.prog w "unicode/utf8.first" Lib.firstData) (h4 : Lib.VarReads Tryd.prog w "unicode/utf8.acceptRanges" Lib.acceptData) : Lib.Utf8Tabs 0 1 w := by
  refine ⟨fun c hc => ?_, fun i hi => ?_⟩
  · obtain ⟨g, t, cs, fuel, p, hg, hty, hvar, hd⟩ := h3
    obtain rfl := Option.some.inj (gFirst.symm.trans hg)
    obtain rfl := Option.some.inj (yFirst.symm.trans hty)
    have hcs := Lib.cells_of_tab Tryd.underlying45 Tryd.underlying5 cells5 cells45 hd
    have := World.var?_cell hg hvar c
    rw [this, ← Array.getElem?_toList, hcs]
    simp [Lib.firstTab, hc]
  · obtain ⟨g, t, cs, fuel, p, hg, hty, hvar, hd⟩ := h4
    obtain rfl := Option.some.inj (gAccept.symm.trans hg)
    obtain rfl := Option.some.inj (yAccept.symm.trans hty)
    obtain ⟨fuel', d, q, hdi, he⟩ := Lib.array_elem Tryd.underlying48 hd i hi
    simp only [List.getElem?_map, List.getElem?_range hi, Option.map_some, Option.some.injEq] at hdi
    subst hdi
    rw [cells47] at he
    have hcs := Lib.ints_of_struct Tryd.underlying47 (fun j f hj => by
      match j, hj with
      | 0, hj => simp at hj; subst hj; exact ⟨Tryd.underlying5, rfl, cells5⟩
      | 1, hj => simp at hj; subst hj; exact ⟨Tryd.underlying5, rfl, cells5⟩
      | j + 2, hj => simp at hj) (by rw [cells47]; rfl) he
    have e0 := congrArg (·[0]?) hcs
    have e1 := congrArg (·[1]?) hcs
    simp only [List.getElem?_take, List.getElem?_drop] at e0 e1
    constructor
    · rw [World.var?_cell hg hvar (2 * i), ← Array.getElem?_toList]
      simpa [Nat.mul_comm] using e0
    · rw [World.var?_cell hg hvar (2 * i + 1), ← Array.getElem?_toList]
      simpa [Nat.mul_comm] using e1
theorem u8_of_laid4 {W : World} (h : laidMetH Tryd.prog laid4 W) : Lib.Utf8Tabs 0 1 W := by
  have h' := plain_of (by kernel_rfl) h
  refine u8_of_reads ?_ ?_
  · rw [← firstD]; exact Lib.laidMet.reads h' (by simp [laid4])
  · rw [← acceptD]; exact Lib.laidMet.reads h' (by simp [laid4])
end Go.Proofs.YtblhofoikpnbkaaDoor
