/- What a reader tells of an escape that names a rune, or a font, of one that is none, of one that is not there. -/
import Derived.Test.YtgfmpndojjopnaaEb
namespace Go.Proofs.Ytgfmpndojjopnaa
open Go.RowKit

section
variable {w0 : World} {B : Nat} {tv : Value} {L : List Int} {nx : Int} {T : List Tok} {D : List Dg}

set_option maxRecDepth 100000 in
set_option maxHeartbeats 4000000 in
theorem esc_named (p : Nat) (d : Int) (E : Ending → World → Prop) (w : World) (h : Rd w0 B tv L w nx T D) (hd : L[p + 1]? = some d) (hL : L.length ≤ 20000) (hT : T.length ≤ 20000) (hD : D.length ≤ 20000)
    (hx : d = 40 ∨ d = 91)
    (hE : ∀ W v, E v W → ∃ b, v = .returned (.bool b))
    (hc : ∀ W, Rd w0 B tv L W ((p : Int) + 2) T D → Calls Try.prog 37 #[.pointer (some ⟨B, 0, none⟩), .int .i64 (p : Int)] W E) :
    Calls Try.prog 27 #[.pointer (some ⟨B, 0, none⟩), .int .i64 (p : Int)] w (E) := by
  have hlt := (List.getElem?_eq_some_iff.1 hd).1
  have h0 := h
  obtain ⟨vt, vd, vm, hv⟩ := h
  have c0 : w.cell? ⟨B, 0, none⟩ = some tv := hv.blk.cell 0
  have c1 : w.cell? ⟨B, 1, none⟩ = some (.int .i64 nx) := hv.blk.cell 1
  have f1 : w.frozen? ⟨B, 1, none⟩ = false := hv.blk.frozen (by simp)
  obtain ⟨at_, ct, rfl⟩ := hv.sl.len
  obtain ⟨g, off, rfl, c50⟩ := hv.sl.at hd
  have hg : g < w0.heap.size := World.block_lt_of_cell? _ _ c50
  rw [hv.hB] at hg
  have c5 : w.cell? ⟨g, off + (p + 1), none⟩ = some (.int .i32 d) := (hv.bel.cell (p := ⟨g, off + (p + 1), none⟩) hg).trans c50
  have hgB : ¬ g = B := by omega
  have hgB' : ¬ B = g := by omega
  have HX : Hid (Rd w0 B (.slice (some ⟨g, off, none⟩) L.length ct) L (w.setCell ⟨B, 1, none⟩ (.int .i64 ((p : Int) + 2))) ((p : Int) + 2) T D) := Lib.hid ⟨vt, vd, vm, hv.next _⟩
  have HC := Lib.hid hc
  have HE := Lib.hid hE
  clear hc hE
  have hz1 : ¬ (L.length : Int) < (p : Int) + 2 := by omega
  have hz2 : (p : Int) + 1 < (L.length : Int) := by omega
  have hz3 : (p : Int) ≤ 20000 := by omega
  have hz4 : (0 : Int) ≤ (p : Int) := by omega
  clear hv c50 hd hg h0
  rcases hx with rfl | rfl
  all_goals
    go_enter Try.func27, Try.ntmps27
    go_wp2_with fail
    go_quiet (fail)
    go_wp2_with fail
    refine (HC.out _ (HX.out.drewN _)).mono ?_
    rintro e w5 h5
    obtain ⟨b, rfl⟩ := HE.out _ _ h5
    have H5 := Lib.hid h5
    clear h5 HC HX HE
    go_wp2_with fail
    exact H5.out

set_option maxRecDepth 100000 in
set_option maxHeartbeats 4000000 in
theorem esc_font (p : Nat) (d : Int) (E : Ending → World → Prop) (w : World) (h : Rd w0 B tv L w nx T D) (hd : L[p + 1]? = some d) (hL : L.length ≤ 20000) (hT : T.length ≤ 20000) (hD : D.length ≤ 20000)
    (hx : d = 102)
    (hE : ∀ W v, E v W → ∃ b, v = .returned (.bool b))
    (hc : ∀ W, Rd w0 B tv L W ((p : Int) + 2) T D → Calls Try.prog 38 #[.pointer (some ⟨B, 0, none⟩), .int .i64 (p : Int)] W E) :
    Calls Try.prog 27 #[.pointer (some ⟨B, 0, none⟩), .int .i64 (p : Int)] w (E) := by
  have hlt := (List.getElem?_eq_some_iff.1 hd).1
  have h0 := h
  obtain ⟨vt, vd, vm, hv⟩ := h
  have c0 : w.cell? ⟨B, 0, none⟩ = some tv := hv.blk.cell 0
  have c1 : w.cell? ⟨B, 1, none⟩ = some (.int .i64 nx) := hv.blk.cell 1
  have f1 : w.frozen? ⟨B, 1, none⟩ = false := hv.blk.frozen (by simp)
  obtain ⟨at_, ct, rfl⟩ := hv.sl.len
  obtain ⟨g, off, rfl, c50⟩ := hv.sl.at hd
  have hg : g < w0.heap.size := World.block_lt_of_cell? _ _ c50
  rw [hv.hB] at hg
  have c5 : w.cell? ⟨g, off + (p + 1), none⟩ = some (.int .i32 d) := (hv.bel.cell (p := ⟨g, off + (p + 1), none⟩) hg).trans c50
  have hgB : ¬ g = B := by omega
  have hgB' : ¬ B = g := by omega
  have HX : Hid (Rd w0 B (.slice (some ⟨g, off, none⟩) L.length ct) L (w.setCell ⟨B, 1, none⟩ (.int .i64 ((p : Int) + 2))) ((p : Int) + 2) T D) := Lib.hid ⟨vt, vd, vm, hv.next _⟩
  have HC := Lib.hid hc
  have HE := Lib.hid hE
  clear hc hE
  have hz1 : ¬ (L.length : Int) < (p : Int) + 2 := by omega
  have hz2 : (p : Int) + 1 < (L.length : Int) := by omega
  have hz3 : (p : Int) ≤ 20000 := by omega
  have hz4 : (0 : Int) ≤ (p : Int) := by omega
  clear hv c50 hd hg h0
  rcases hx with rfl
  all_goals
    go_enter Try.func27, Try.ntmps27
    go_wp2_with fail
    go_quiet (fail)
    go_wp2_with fail
    refine (HC.out _ (HX.out.drewN _)).mono ?_
    rintro e w5 h5
    obtain ⟨b, rfl⟩ := HE.out _ _ h5
    have H5 := Lib.hid h5
    clear h5 HC HX HE
    go_wp2_with fail
    exact H5.out

set_option maxRecDepth 100000 in
set_option maxHeartbeats 4000000 in
theorem esc_other (p : Nat) (d : Int) (w : World) (h : Rd w0 B tv L w nx T D) (hd : L[p + 1]? = some d) (hL : L.length ≤ 20000) (hT : T.length ≤ 20000) (hD : D.length ≤ 20000)
    (hx : d ≠ 92 ∧ d ≠ 101 ∧ d ≠ 45 ∧ d ≠ 96 ∧ d ≠ 46 ∧ d ≠ 39 ∧ d ≠ 32 ∧ d ≠ 126 ∧ d ≠ 48 ∧ d ≠ 38 ∧ d ≠ 37 ∧ d ≠ 47 ∧ d ≠ 44 ∧ d ≠ 58 ∧ d ≠ 34 ∧ d ≠ 40 ∧ d ≠ 91 ∧ d ≠ 102) :
    Calls Try.prog 27 #[.pointer (some ⟨B, 0, none⟩), .int .i64 (p : Int)] w (RdEnd w0 B tv L ((p : Int) + 2) T (D ++ dgs p [1]) (.bool true)) := by
  have hlt := (List.getElem?_eq_some_iff.1 hd).1
  have h0 := h
  obtain ⟨vt, vd, vm, hv⟩ := h
  have c0 : w.cell? ⟨B, 0, none⟩ = some tv := hv.blk.cell 0
  have c1 : w.cell? ⟨B, 1, none⟩ = some (.int .i64 nx) := hv.blk.cell 1
  have f1 : w.frozen? ⟨B, 1, none⟩ = false := hv.blk.frozen (by simp)
  obtain ⟨at_, ct, rfl⟩ := hv.sl.len
  obtain ⟨g, off, rfl, c50⟩ := hv.sl.at hd
  have hg : g < w0.heap.size := World.block_lt_of_cell? _ _ c50
  rw [hv.hB] at hg
  have c5 : w.cell? ⟨g, off + (p + 1), none⟩ = some (.int .i32 d) := (hv.bel.cell (p := ⟨g, off + (p + 1), none⟩) hg).trans c50
  have hgB : ¬ g = B := by omega
  have hgB' : ¬ B = g := by omega
  have HX : Hid (Rd w0 B (.slice (some ⟨g, off, none⟩) L.length ct) L (w.setCell ⟨B, 1, none⟩ (.int .i64 ((p : Int) + 2))) ((p : Int) + 2) T D) := Lib.hid ⟨vt, vd, vm, hv.next _⟩
  have HC := Lib.hid (fun W (h : Rd w0 B (.slice (some ⟨g, off, none⟩) L.length ct) L W ((p : Int) + 2) T D) => wrong_any 1 p W h (by omega) (by omega))
  have hz1 : ¬ (L.length : Int) < (p : Int) + 2 := by omega
  have hz2 : (p : Int) + 1 < (L.length : Int) := by omega
  have hz3 : (p : Int) ≤ 20000 := by omega
  have hz4 : (0 : Int) ≤ (p : Int) := by omega
  clear hv c50 hd hg h0
  obtain ⟨x92, x101, x45, x96, x46, x39, x32, x126, x48, x38, x37, x47, x44, x58, x34, x40, x91, x102⟩ := hx
  have y92 : (d == 92) = false := by simpa using x92
  have y101 : (d == 101) = false := by simpa using x101
  have y45 : (d == 45) = false := by simpa using x45
  have y96 : (d == 96) = false := by simpa using x96
  have y46 : (d == 46) = false := by simpa using x46
  have y39 : (d == 39) = false := by simpa using x39
  have y32 : (d == 32) = false := by simpa using x32
  have y126 : (d == 126) = false := by simpa using x126
  have y48 : (d == 48) = false := by simpa using x48
  have y38 : (d == 38) = false := by simpa using x38
  have y37 : (d == 37) = false := by simpa using x37
  have y47 : (d == 47) = false := by simpa using x47
  have y44 : (d == 44) = false := by simpa using x44
  have y58 : (d == 58) = false := by simpa using x58
  have y34 : (d == 34) = false := by simpa using x34
  have y40 : (d == 40) = false := by simpa using x40
  have y91 : (d == 91) = false := by simpa using x91
  have y102 : (d == 102) = false := by simpa using x102
  clear x92 x101 x45 x96 x46 x39 x32 x126 x48 x38 x37 x47 x44 x58 x34 x40 x91 x102
  go_enter Try.func27, Try.ntmps27
  go_wp2_with fail
  go_quiet (fail)
  go_wp2_with fail
  refine (HC.out _ (HX.out.drewN _)).mono ?_
  rintro e w5 ⟨rfl, h5⟩
  have H5 := Lib.hid h5
  clear h5 HC HX
  go_wp2_with fail
  go_ret
  exact ⟨rfl, H5.out⟩

set_option maxRecDepth 100000 in
set_option maxHeartbeats 4000000 in
theorem esc_end (p : Nat) (w : World) (h : Rd w0 B tv L w nx T D) (hd : L.length = p + 1) (hL : L.length ≤ 20000) (hD : D.length ≤ 20000) :
    Calls Try.prog 27 #[.pointer (some ⟨B, 0, none⟩), .int .i64 (p : Int)] w (RdEnd w0 B tv L ((p : Int) + 2) T (D ++ dgs p [1]) (.bool false)) := by
  obtain ⟨vt, vd, vm, hv⟩ := h
  have c0 : w.cell? ⟨B, 0, none⟩ = some tv := hv.blk.cell 0
  have c1 : w.cell? ⟨B, 1, none⟩ = some (.int .i64 nx) := hv.blk.cell 1
  have f1 : w.frozen? ⟨B, 1, none⟩ = false := hv.blk.frozen (by simp)
  obtain ⟨at_, ct, rfl⟩ := hv.sl.len
  obtain ⟨N, hN⟩ : ∃ N, L.length = N := ⟨_, rfl⟩
  rw [hN] at c0 hv hd hL ⊢
  have HX : Hid (Rd w0 B (.slice at_ N ct) L (w.setCell ⟨B, 1, none⟩ (.int .i64 ((p : Int) + 2))) ((p : Int) + 2) T D) := Lib.hid ⟨vt, vd, vm, hv.next _⟩
  have HC := Lib.hid (fun W (h : Rd w0 B (.slice at_ N ct) L W ((p : Int) + 2) T D) => wrong_any 1 p W h (by omega) (by omega))
  have hz1 : (N : Int) < (p : Int) + 2 := by omega
  have hz3 : (p : Int) ≤ 20000 := by omega
  have hz4 : (0 : Int) ≤ (p : Int) := by omega
  clear hv hd hN
  go_enter Try.func27, Try.ntmps27
  go_wp2_with fail
  go_quiet (fail)
  go_wp2_with fail
  refine (HC.out _ (HX.out.drewN _)).mono ?_
  rintro e w5 ⟨rfl, h5⟩
  have H5 := Lib.hid h5
  clear h5 HC HX
  go_wp2_with fail
  go_ret
  exact ⟨rfl, H5.out⟩
end
end Go.Proofs.Ytgfmpndojjopnaa
