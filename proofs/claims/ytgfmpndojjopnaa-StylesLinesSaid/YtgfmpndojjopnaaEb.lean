/- What a reader tells of an escape that stands for a rune, for nothing, for a comment. -/
import Derived.Test.YtgfmpndojjopnaaEa
import Derived.Deep.QuietTactic
import Derived.BigQuiet
namespace Go.Proofs.Ytgfmpndojjopnaa
open Go.RowKit

section
variable {w0 : World} {B : Nat} {tv : Value} {L : List Int} {nx : Int} {T : List Tok} {D : List Dg}
theorem Rd.drewN {W : World} (h : Rd w0 B tv L W nx T D) (q : Nat) : Rd w0 B tv L (W.drewN q) nx T D := by
  obtain ⟨vt, vd, vm, hv⟩ := h
  exact ⟨vt, vd, vm, hv.keep (below_drewN (Below.refl _ W) q)⟩

set_option maxRecDepth 100000 in
set_option maxHeartbeats 4000000 in
theorem esc_char (p : Nat) (d x : Int) (w : World) (h : Rd w0 B tv L w nx T D) (hd : L[p + 1]? = some d) (hL : L.length ≤ 20000) (hT : T.length ≤ 20000) (hD : D.length ≤ 20000)
    (hx : (d = 92 ∧ x = 92) ∨ (d = 101 ∧ x = 92) ∨ (d = 45 ∧ x = 45) ∨ (d = 96 ∧ x = 96) ∨ (d = 46 ∧ x = 46) ∨ (d = 39 ∧ x = 180) ∨ (d = 32 ∧ x = 160) ∨ (d = 126 ∧ x = 160) ∨ (d = 48 ∧ x = 160)) :
    Calls Try.prog 27 #[.pointer (some ⟨B, 0, none⟩), .int .i64 (p : Int)] w (RdEnd w0 B tv L ((p : Int) + 2) (T ++ [(1, x)]) D (.bool true)) := by
  have hlt := (List.getElem?_eq_some_iff.1 hd).1
  have h0 := h
  obtain ⟨vt, vd, vm, hv⟩ := h
  have c0 : w.cell? ⟨B, 0, none⟩ = some tv := hv.blk.cell 0
  have c1 : w.cell? ⟨B, 1, none⟩ = some (.int .i64 nx) := hv.blk.cell 1
  have f1 : w.frozen? ⟨B, 1, none⟩ = false := hv.blk.frozen (by simp)
  obtain ⟨at_, ct, rfl⟩ := hv.sl.len
  obtain ⟨g, off, rfl, c50⟩ := hv.sl.at hd
  have hg : g < w0.heap.size := World.block_lt_of_cell? _ _ c50
  rw [hv.hB] at hg
  have c5 : w.cell? ⟨g, off + (p + 1), none⟩ = some (.int .i32 d) := (hv.bel.cell (p := ⟨g, off + (p + 1), none⟩) hg).trans c50
  have hgB : ¬ g = B := by omega
  have hgB' : ¬ B = g := by omega
  have HX : Hid (Rd w0 B (.slice (some ⟨g, off, none⟩) L.length ct) L (w.setCell ⟨B, 1, none⟩ (.int .i64 ((p : Int) + 2))) ((p : Int) + 2) T D) := Lib.hid ⟨vt, vd, vm, hv.next _⟩
  have HC := Lib.hid (fun W (h : Rd w0 B (.slice (some ⟨g, off, none⟩) L.length ct) L W ((p : Int) + 2) T D) => char_any x W h (by omega))
  have hz1 : ¬ (L.length : Int) < (p : Int) + 2 := by omega
  have hz2 : (p : Int) + 1 < (L.length : Int) := by omega
  have hz3 : (p : Int) ≤ 20000 := by omega
  have hz4 : (0 : Int) ≤ (p : Int) := by omega
  clear hv c50 hd hg h0
  rcases hx with ⟨rfl, rfl⟩ | ⟨rfl, rfl⟩ | ⟨rfl, rfl⟩ | ⟨rfl, rfl⟩ | ⟨rfl, rfl⟩ | ⟨rfl, rfl⟩ | ⟨rfl, rfl⟩ | ⟨rfl, rfl⟩ | ⟨rfl, rfl⟩
  all_goals
    go_enter Try.func27, Try.ntmps27
    go_wp2_with fail
    go_quiet (fail)
    go_wp2_with fail
    refine (HC.out _ (HX.out.drewN _)).mono ?_
    rintro e w5 ⟨rfl, h5⟩
    have H5 := Lib.hid h5
    clear h5 HC HX
    go_wp2_with fail
    go_ret
    exact ⟨rfl, H5.out⟩

set_option maxRecDepth 100000 in
set_option maxHeartbeats 4000000 in
theorem esc_nothing (p : Nat) (d : Int) (w : World) (h : Rd w0 B tv L w nx T D) (hd : L[p + 1]? = some d) (hL : L.length ≤ 20000) (hT : T.length ≤ 20000) (hD : D.length ≤ 20000)
    (hx : d = 38 ∨ d = 37 ∨ d = 47 ∨ d = 44 ∨ d = 58) :
    Calls Try.prog 27 #[.pointer (some ⟨B, 0, none⟩), .int .i64 (p : Int)] w (RdEnd w0 B tv L ((p : Int) + 2) T D (.bool true)) := by
  have hlt := (List.getElem?_eq_some_iff.1 hd).1
  have h0 := h
  obtain ⟨vt, vd, vm, hv⟩ := h
  have c0 : w.cell? ⟨B, 0, none⟩ = some tv := hv.blk.cell 0
  have c1 : w.cell? ⟨B, 1, none⟩ = some (.int .i64 nx) := hv.blk.cell 1
  have f1 : w.frozen? ⟨B, 1, none⟩ = false := hv.blk.frozen (by simp)
  obtain ⟨at_, ct, rfl⟩ := hv.sl.len
  obtain ⟨g, off, rfl, c50⟩ := hv.sl.at hd
  have hg : g < w0.heap.size := World.block_lt_of_cell? _ _ c50
  rw [hv.hB] at hg
  have c5 : w.cell? ⟨g, off + (p + 1), none⟩ = some (.int .i32 d) := (hv.bel.cell (p := ⟨g, off + (p + 1), none⟩) hg).trans c50
  have hgB : ¬ g = B := by omega
  have hgB' : ¬ B = g := by omega
  have HX : Hid (Rd w0 B (.slice (some ⟨g, off, none⟩) L.length ct) L (w.setCell ⟨B, 1, none⟩ (.int .i64 ((p : Int) + 2))) ((p : Int) + 2) T D) := Lib.hid ⟨vt, vd, vm, hv.next _⟩
  have hz1 : ¬ (L.length : Int) < (p : Int) + 2 := by omega
  have hz2 : (p : Int) + 1 < (L.length : Int) := by omega
  have hz3 : (p : Int) ≤ 20000 := by omega
  have hz4 : (0 : Int) ≤ (p : Int) := by omega
  clear hv c50 hd hg h0
  rcases hx with rfl | rfl | rfl | rfl | rfl
  all_goals
    go_enter Try.func27, Try.ntmps27
    go_wp2_with fail
    go_quiet (fail)
    go_wp2_with fail
    go_ret
    exact ⟨rfl, HX.out.drewN _⟩

set_option maxRecDepth 100000 in
set_option maxHeartbeats 4000000 in
theorem esc_comment (p : Nat) (d : Int) (w : World) (h : Rd w0 B tv L w nx T D) (hd : L[p + 1]? = some d) (hL : L.length ≤ 20000) (hT : T.length ≤ 20000) (hD : D.length ≤ 20000) (hx : d = 34) :
    Calls Try.prog 27 #[.pointer (some ⟨B, 0, none⟩), .int .i64 (p : Int)] w (RdEnd w0 B tv L ((p : Int) + 2) T D (.bool false)) := by
  have hlt := (List.getElem?_eq_some_iff.1 hd).1
  have h0 := h
  obtain ⟨vt, vd, vm, hv⟩ := h
  have c0 : w.cell? ⟨B, 0, none⟩ = some tv := hv.blk.cell 0
  have c1 : w.cell? ⟨B, 1, none⟩ = some (.int .i64 nx) := hv.blk.cell 1
  have f1 : w.frozen? ⟨B, 1, none⟩ = false := hv.blk.frozen (by simp)
  obtain ⟨at_, ct, rfl⟩ := hv.sl.len
  obtain ⟨g, off, rfl, c50⟩ := hv.sl.at hd
  have hg : g < w0.heap.size := World.block_lt_of_cell? _ _ c50
  rw [hv.hB] at hg
  have c5 : w.cell? ⟨g, off + (p + 1), none⟩ = some (.int .i32 d) := (hv.bel.cell (p := ⟨g, off + (p + 1), none⟩) hg).trans c50
  have hgB : ¬ g = B := by omega
  have hgB' : ¬ B = g := by omega
  have HX : Hid (Rd w0 B (.slice (some ⟨g, off, none⟩) L.length ct) L (w.setCell ⟨B, 1, none⟩ (.int .i64 ((p : Int) + 2))) ((p : Int) + 2) T D) := Lib.hid ⟨vt, vd, vm, hv.next _⟩
  have hz1 : ¬ (L.length : Int) < (p : Int) + 2 := by omega
  have hz2 : (p : Int) + 1 < (L.length : Int) := by omega
  have hz3 : (p : Int) ≤ 20000 := by omega
  have hz4 : (0 : Int) ≤ (p : Int) := by omega
  clear hv c50 hd hg h0
  subst hx
  go_enter Try.func27, Try.ntmps27
  go_wp2_with fail
  go_quiet (fail)
  go_wp2_with fail
  go_ret
  exact ⟨rfl, HX.out.drewN _⟩
end
end Go.Proofs.Ytgfmpndojjopnaa
