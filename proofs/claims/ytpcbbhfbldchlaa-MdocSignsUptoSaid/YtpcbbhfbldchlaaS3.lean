/- What a reader tells of an escape that stands for a rune, for nothing, for a comment. What a reader tells of an escape that names a rune, or a font, of one that is none, of one that is not there. A reader's escape, whatever it is; Scan. Scan. A text set as it is read: styles.Line, and the document's. -/
import Derived.Test.YtpcbbhfbldchlaaEa
import Derived.Deep.QuietTactic
import Derived.BigQuiet
import Derived.WalkMore
set_option linter.unusedVariables false
set_option linter.unusedSimpArgs false
namespace Go.Proofs.Ytpcbbhfbldchlaa
open Go.RowKit
section
variable {w0 : World} {B : Nat} {tv : Value} {L : List Int} {nx : Int} {T : List Tok} {D : List Dg}
theorem Rd.drewN {W : World} (h : Rd w0 B tv L W nx T D) (q : Nat) : Rd w0 B tv L (W.drewN q) nx T D := by
  obtain ⟨vt, vd, vm, hv⟩ := h
  exact ⟨vt, vd, vm, hv.keep (below_drewN (Below.refl _ W) q)⟩
set_option maxRecDepth 100000 in
set_option maxHeartbeats 4000000 in
theorem esc_char (p : Nat) (d x : Int) (w : World) (h : Rd w0 B tv L w nx T D) (hd : L[p + 1]? = some d) (hL : L.length ≤ 20000) (hT : T.length ≤ 20000) (hD : D.length ≤ 20000)
    (hx : (d = 92 ∧ x = 92) ∨ (d = 101 ∧ x = 92) ∨ (d = 45 ∧ x = 45) ∨ (d = 96 ∧ x = 96) ∨ (d = 46 ∧ x = 46) ∨ (d = 39 ∧ x = 180) ∨ (d = 32 ∧ x = 160) ∨ (d = 126 ∧ x = 160) ∨ (d = 48 ∧ x = 160)) :
    Calls Try.prog 29 #[.pointer (some ⟨B, 0, none⟩), .int .i64 (p : Int)] w (RdEnd w0 B tv L ((p : Int) + 2) (T ++ [(1, x)]) D (.bool true)) := by
  have hlt := (List.getElem?_eq_some_iff.1 hd).1
  have h0 := h
  obtain ⟨vt, vd, vm, hv⟩ := h
  have c0 : w.cell? ⟨B, 0, none⟩ = some tv := hv.blk.cell 0
  have c1 : w.cell? ⟨B, 1, none⟩ = some (.int .i64 nx) := hv.blk.cell 1
  have f1 : w.frozen? ⟨B, 1, none⟩ = false := hv.blk.frozen (by simp)
  obtain ⟨at_, ct, rfl⟩ := hv.sl.len
  obtain ⟨g, off, rfl, c50⟩ := hv.sl.at hd
  have hg : g < w0.heap.size := World.block_lt_of_cell? _ _ c50
  rw [hv.hB] at hg
  have c5 : w.cell? ⟨g, off + (p + 1), none⟩ = some (.int .i32 d) := (hv.bel.cell (p := ⟨g, off + (p + 1), none⟩) hg).trans c50
  have hgB : ¬ g = B := by omega
  have hgB' : ¬ B = g := by omega
  have HX : Hid (Rd w0 B (.slice (some ⟨g, off, none⟩) L.length ct) L (w.setCell ⟨B, 1, none⟩ (.int .i64 ((p : Int) + 2))) ((p : Int) + 2) T D) := Lib.hid ⟨vt, vd, vm, hv.next _⟩
  have HC := Lib.hid (fun W (h : Rd w0 B (.slice (some ⟨g, off, none⟩) L.length ct) L W ((p : Int) + 2) T D) => char_any x W h (by omega))
  have hz1 : ¬ (L.length : Int) < (p : Int) + 2 := by omega
  have hz2 : (p : Int) + 1 < (L.length : Int) := by omega
  have hz3 : (p : Int) ≤ 20000 := by omega
  have hz4 : (0 : Int) ≤ (p : Int) := by omega
  clear hv c50 hd hg h0
  rcases hx with ⟨rfl, rfl⟩ | ⟨rfl, rfl⟩ | ⟨rfl, rfl⟩ | ⟨rfl, rfl⟩ | ⟨rfl, rfl⟩ | ⟨rfl, rfl⟩ | ⟨rfl, rfl⟩ | ⟨rfl, rfl⟩ | ⟨rfl, rfl⟩
  all_goals
    go_enter Try.func29, Try.ntmps29
    go_wp2_with fail
    go_quiet (fail)
    go_wp2_with fail
    refine (HC.out _ (HX.out.drewN _)).mono ?_
    rintro e w5 ⟨rfl, h5⟩
    have H5 := Lib.hid h5
    clear h5 HC HX
    go_wp2_with fail
    go_ret
    exact ⟨rfl, H5.out⟩
set_option maxRecDepth 100000 in
set_option maxHeartbeats 4000000 in
theorem esc_nothing (p : Nat) (d : Int) (w : World) (h : Rd w0 B tv L w nx T D) (hd : L[p + 1]? = some d) (hL : L.length ≤ 20000) (hT : T.length ≤ 20000) (hD : D.length ≤ 20000)
    (hx : d = 38 ∨ d = 37 ∨ d = 47 ∨ d = 44 ∨ d = 58) :
    Calls Try.prog 29 #[.pointer (some ⟨B, 0, none⟩), .int .i64 (p : Int)] w (RdEnd w0 B tv L ((p : Int) + 2) T D (.bool true)) := by
  have hlt := (List.getElem?_eq_some_iff.1 hd).1
  have h0 := h
  obtain ⟨vt, vd, vm, hv⟩ := h
  have c0 : w.cell? ⟨B, 0, none⟩ = some tv := hv.blk.cell 0
  have c1 : w.cell? ⟨B, 1, none⟩ = some (.int .i64 nx) := hv.blk.cell 1
  have f1 : w.frozen? ⟨B, 1, none⟩ = false := hv.blk.frozen (by simp)
  obtain ⟨at_, ct, rfl⟩ := hv.sl.len
  obtain ⟨g, off, rfl, c50⟩ := hv.sl.at hd
  have hg : g < w0.heap.size := World.block_lt_of_cell? _ _ c50
  rw [hv.hB] at hg
  have c5 : w.cell? ⟨g, off + (p + 1), none⟩ = some (.int .i32 d) := (hv.bel.cell (p := ⟨g, off + (p + 1), none⟩) hg).trans c50
  have hgB : ¬ g = B := by omega
  have hgB' : ¬ B = g := by omega
  have HX : Hid (Rd w0 B (.slice (some ⟨g, off, none⟩) L.length ct) L (w.setCell ⟨B, 1, none⟩ (.int .i64 ((p : Int) + 2))) ((p : Int) + 2) T D) := Lib.hid ⟨vt, vd, vm, hv.next _⟩
  have hz1 : ¬ (L.length : Int) < (p : Int) + 2 := by omega
  have hz2 : (p : Int) + 1 < (L.length : Int) := by omega
  have hz3 : (p : Int) ≤ 20000 := by omega
  have hz4 : (0 : Int) ≤ (p : Int) := by omega
  clear hv c50 hd hg h0
  rcases hx with rfl | rfl | rfl | rfl | rfl
  all_goals
    go_enter Try.func29, Try.ntmps29
    go_wp2_with fail
    go_quiet (fail)
    go_wp2_with fail
    go_ret
    exact ⟨rfl, HX.out.drewN _⟩
set_option maxRecDepth 100000 in
set_option maxHeartbeats 4000000 in
theorem esc_comment (p : Nat) (d : Int) (w : World) (h : Rd w0 B tv L w nx T D) (hd : L[p + 1]? = some d) (hL : L.length ≤ 20000) (hT : T.length ≤ 20000) (hD : D.length ≤ 20000) (hx : d = 34) :
    Calls Try.prog 29 #[.pointer (some ⟨B, 0, none⟩), .int .i64 (p : Int)] w (RdEnd w0 B tv L ((p : Int) + 2) T D (.bool false)) := by
  have hlt := (List.getElem?_eq_some_iff.1 hd).1
  have h0 := h
  obtain ⟨vt, vd, vm, hv⟩ := h
  have c0 : w.cell? ⟨B, 0, none⟩ = some tv := hv.blk.cell 0
  have c1 : w.cell? ⟨B, 1, none⟩ = some (.int .i64 nx) := hv.blk.cell 1
  have f1 : w.frozen? ⟨B, 1, none⟩ = false := hv.blk.frozen (by simp)
  obtain ⟨at_, ct, rfl⟩ := hv.sl.len
  obtain ⟨g, off, rfl, c50⟩ := hv.sl.at hd
  have hg : g < w0.heap.size := World.block_lt_of_cell? _ _ c50
  rw [hv.hB] at hg
  have c5 : w.cell? ⟨g, off + (p + 1), none⟩ = some (.int .i32 d) := (hv.bel.cell (p := ⟨g, off + (p + 1), none⟩) hg).trans c50
  have hgB : ¬ g = B := by omega
  have hgB' : ¬ B = g := by omega
  have HX : Hid (Rd w0 B (.slice (some ⟨g, off, none⟩) L.length ct) L (w.setCell ⟨B, 1, none⟩ (.int .i64 ((p : Int) + 2))) ((p : Int) + 2) T D) := Lib.hid ⟨vt, vd, vm, hv.next _⟩
  have hz1 : ¬ (L.length : Int) < (p : Int) + 2 := by omega
  have hz2 : (p : Int) + 1 < (L.length : Int) := by omega
  have hz3 : (p : Int) ≤ 20000 := by omega
  have hz4 : (0 : Int) ≤ (p : Int) := by omega
  clear hv c50 hd hg h0
  subst hx
  go_enter Try.func29, Try.ntmps29
  go_wp2_with fail
  go_quiet (fail)
  go_wp2_with fail
  go_ret
  exact ⟨rfl, HX.out.drewN _⟩
end
end Go.Proofs.Ytpcbbhfbldchlaa
namespace Go.Proofs.Ytpcbbhfbldchlaa
open Go.RowKit
section
variable {w0 : World} {B : Nat} {tv : Value} {L : List Int} {nx : Int} {T : List Tok} {D : List Dg}
set_option maxRecDepth 100000 in
set_option maxHeartbeats 4000000 in
theorem esc_named (p : Nat) (d : Int) (E : Ending → World → Prop) (w : World) (h : Rd w0 B tv L w nx T D) (hd : L[p + 1]? = some d) (hL : L.length ≤ 20000) (hT : T.length ≤ 20000) (hD : D.length ≤ 20000)
    (hx : d = 40 ∨ d = 91)
    (hE : ∀ W v, E v W → ∃ b, v = .returned (.bool b))
    (hc : ∀ W, Rd w0 B tv L W ((p : Int) + 2) T D → Calls Try.prog 34 #[.pointer (some ⟨B, 0, none⟩), .int .i64 (p : Int)] W E) :
    Calls Try.prog 29 #[.pointer (some ⟨B, 0, none⟩), .int .i64 (p : Int)] w (E) := by
  have hlt := (List.getElem?_eq_some_iff.1 hd).1
  have h0 := h
  obtain ⟨vt, vd, vm, hv⟩ := h
  have c0 : w.cell? ⟨B, 0, none⟩ = some tv := hv.blk.cell 0
  have c1 : w.cell? ⟨B, 1, none⟩ = some (.int .i64 nx) := hv.blk.cell 1
  have f1 : w.frozen? ⟨B, 1, none⟩ = false := hv.blk.frozen (by simp)
  obtain ⟨at_, ct, rfl⟩ := hv.sl.len
  obtain ⟨g, off, rfl, c50⟩ := hv.sl.at hd
  have hg : g < w0.heap.size := World.block_lt_of_cell? _ _ c50
  rw [hv.hB] at hg
  have c5 : w.cell? ⟨g, off + (p + 1), none⟩ = some (.int .i32 d) := (hv.bel.cell (p := ⟨g, off + (p + 1), none⟩) hg).trans c50
  have hgB : ¬ g = B := by omega
  have hgB' : ¬ B = g := by omega
  have HX : Hid (Rd w0 B (.slice (some ⟨g, off, none⟩) L.length ct) L (w.setCell ⟨B, 1, none⟩ (.int .i64 ((p : Int) + 2))) ((p : Int) + 2) T D) := Lib.hid ⟨vt, vd, vm, hv.next _⟩
  have HC := Lib.hid hc
  have HE := Lib.hid hE
  clear hc hE
  have hz1 : ¬ (L.length : Int) < (p : Int) + 2 := by omega
  have hz2 : (p : Int) + 1 < (L.length : Int) := by omega
  have hz3 : (p : Int) ≤ 20000 := by omega
  have hz4 : (0 : Int) ≤ (p : Int) := by omega
  clear hv c50 hd hg h0
  rcases hx with rfl | rfl
  all_goals
    go_enter Try.func29, Try.ntmps29
    go_wp2_with fail
    go_quiet (fail)
    go_wp2_with fail
    refine (HC.out _ (HX.out.drewN _)).mono ?_
    rintro e w5 h5
    obtain ⟨b, rfl⟩ := HE.out _ _ h5
    have H5 := Lib.hid h5
    clear h5 HC HX HE
    go_wp2_with fail
    exact H5.out
set_option maxRecDepth 100000 in
set_option maxHeartbeats 4000000 in
theorem esc_font (p : Nat) (d : Int) (E : Ending → World → Prop) (w : World) (h : Rd w0 B tv L w nx T D) (hd : L[p + 1]? = some d) (hL : L.length ≤ 20000) (hT : T.length ≤ 20000) (hD : D.length ≤ 20000)
    (hx : d = 102)
    (hE : ∀ W v, E v W → ∃ b, v = .returned (.bool b))
    (hc : ∀ W, Rd w0 B tv L W ((p : Int) + 2) T D → Calls Try.prog 35 #[.pointer (some ⟨B, 0, none⟩), .int .i64 (p : Int)] W E) :
    Calls Try.prog 29 #[.pointer (some ⟨B, 0, none⟩), .int .i64 (p : Int)] w (E) := by
  have hlt := (List.getElem?_eq_some_iff.1 hd).1
  have h0 := h
  obtain ⟨vt, vd, vm, hv⟩ := h
  have c0 : w.cell? ⟨B, 0, none⟩ = some tv := hv.blk.cell 0
  have c1 : w.cell? ⟨B, 1, none⟩ = some (.int .i64 nx) := hv.blk.cell 1
  have f1 : w.frozen? ⟨B, 1, none⟩ = false := hv.blk.frozen (by simp)
  obtain ⟨at_, ct, rfl⟩ := hv.sl.len
  obtain ⟨g, off, rfl, c50⟩ := hv.sl.at hd
  have hg : g < w0.heap.size := World.block_lt_of_cell? _ _ c50
  rw [hv.hB] at hg
  have c5 : w.cell? ⟨g, off + (p + 1), none⟩ = some (.int .i32 d) := (hv.bel.cell (p := ⟨g, off + (p + 1), none⟩) hg).trans c50
  have hgB : ¬ g = B := by omega
  have hgB' : ¬ B = g := by omega
  have HX : Hid (Rd w0 B (.slice (some ⟨g, off, none⟩) L.length ct) L (w.setCell ⟨B, 1, none⟩ (.int .i64 ((p : Int) + 2))) ((p : Int) + 2) T D) := Lib.hid ⟨vt, vd, vm, hv.next _⟩
  have HC := Lib.hid hc
  have HE := Lib.hid hE
  clear hc hE
  have hz1 : ¬ (L.length : Int) < (p : Int) + 2 := by omega
  have hz2 : (p : Int) + 1 < (L.length : Int) := by omega
  have hz3 : (p : Int) ≤ 20000 := by omega
  have hz4 : (0 : Int) ≤ (p : Int) := by omega
  clear hv c50 hd hg h0
  rcases hx with rfl
  all_goals
    go_enter Try.func29, Try.ntmps29
    go_wp2_with fail
    go_quiet (fail)
    go_wp2_with fail
    refine (HC.out _ (HX.out.drewN _)).mono ?_
    rintro e w5 h5
    obtain ⟨b, rfl⟩ := HE.out _ _ h5
    have H5 := Lib.hid h5
    clear h5 HC HX HE
    go_wp2_with fail
    exact H5.out
set_option maxRecDepth 100000 in
set_option maxHeartbeats 4000000 in
theorem esc_other (p : Nat) (d : Int) (w : World) (h : Rd w0 B tv L w nx T D) (hd : L[p + 1]? = some d) (hL : L.length ≤ 20000) (hT : T.length ≤ 20000) (hD : D.length ≤ 20000)
    (hx : d ≠ 92 ∧ d ≠ 101 ∧ d ≠ 45 ∧ d ≠ 96 ∧ d ≠ 46 ∧ d ≠ 39 ∧ d ≠ 32 ∧ d ≠ 126 ∧ d ≠ 48 ∧ d ≠ 38 ∧ d ≠ 37 ∧ d ≠ 47 ∧ d ≠ 44 ∧ d ≠ 58 ∧ d ≠ 34 ∧ d ≠ 40 ∧ d ≠ 91 ∧ d ≠ 102) :
    Calls Try.prog 29 #[.pointer (some ⟨B, 0, none⟩), .int .i64 (p : Int)] w (RdEnd w0 B tv L ((p : Int) + 2) T (D ++ dgs p [1]) (.bool true)) := by
  have hlt := (List.getElem?_eq_some_iff.1 hd).1
  have h0 := h
  obtain ⟨vt, vd, vm, hv⟩ := h
  have c0 : w.cell? ⟨B, 0, none⟩ = some tv := hv.blk.cell 0
  have c1 : w.cell? ⟨B, 1, none⟩ = some (.int .i64 nx) := hv.blk.cell 1
  have f1 : w.frozen? ⟨B, 1, none⟩ = false := hv.blk.frozen (by simp)
  obtain ⟨at_, ct, rfl⟩ := hv.sl.len
  obtain ⟨g, off, rfl, c50⟩ := hv.sl.at hd
  have hg : g < w0.heap.size := World.block_lt_of_cell? _ _ c50
  rw [hv.hB] at hg
  have c5 : w.cell? ⟨g, off + (p + 1), none⟩ = some (.int .i32 d) := (hv.bel.cell (p := ⟨g, off + (p + 1), none⟩) hg).trans c50
  have hgB : ¬ g = B := by omega
  have hgB' : ¬ B = g := by omega
  have HX : Hid (Rd w0 B (.slice (some ⟨g, off, none⟩) L.length ct) L (w.setCell ⟨B, 1, none⟩ (.int .i64 ((p : Int) + 2))) ((p : Int) + 2) T D) := Lib.hid ⟨vt, vd, vm, hv.next _⟩
  have HC := Lib.hid (fun W (h : Rd w0 B (.slice (some ⟨g, off, none⟩) L.length ct) L W ((p : Int) + 2) T D) => wrong_any 1 p W h (by omega) (by omega))
  have hz1 : ¬ (L.length : Int) < (p : Int) + 2 := by omega
  have hz2 : (p : Int) + 1 < (L.length : Int) := by omega
  have hz3 : (p : Int) ≤ 20000 := by omega
  have hz4 : (0 : Int) ≤ (p : Int) := by omega
  clear hv c50 hd hg h0
  obtain ⟨x92, x101, x45, x96, x46, x39, x32, x126, x48, x38, x37, x47, x44, x58, x34, x40, x91, x102⟩ := hx
  have y92 : (d == 92) = false := by simpa using x92
  have y101 : (d == 101) = false := by simpa using x101
  have y45 : (d == 45) = false := by simpa using x45
  have y96 : (d == 96) = false := by simpa using x96
  have y46 : (d == 46) = false := by simpa using x46
  have y39 : (d == 39) = false := by simpa using x39
  have y32 : (d == 32) = false := by simpa using x32
  have y126 : (d == 126) = false := by simpa using x126
  have y48 : (d == 48) = false := by simpa using x48
  have y38 : (d == 38) = false := by simpa using x38
  have y37 : (d == 37) = false := by simpa using x37
  have y47 : (d == 47) = false := by simpa using x47
  have y44 : (d == 44) = false := by simpa using x44
  have y58 : (d == 58) = false := by simpa using x58
  have y34 : (d == 34) = false := by simpa using x34
  have y40 : (d == 40) = false := by simpa using x40
  have y91 : (d == 91) = false := by simpa using x91
  have y102 : (d == 102) = false := by simpa using x102
  clear x92 x101 x45 x96 x46 x39 x32 x126 x48 x38 x37 x47 x44 x58 x34 x40 x91 x102
  go_enter Try.func29, Try.ntmps29
  go_wp2_with fail
  go_quiet (fail)
  go_wp2_with fail
  refine (HC.out _ (HX.out.drewN _)).mono ?_
  rintro e w5 ⟨rfl, h5⟩
  have H5 := Lib.hid h5
  clear h5 HC HX
  go_wp2_with fail
  go_ret
  exact ⟨rfl, H5.out⟩
set_option maxRecDepth 100000 in
set_option maxHeartbeats 4000000 in
theorem esc_end (p : Nat) (w : World) (h : Rd w0 B tv L w nx T D) (hd : L.length = p + 1) (hL : L.length ≤ 20000) (hD : D.length ≤ 20000) :
    Calls Try.prog 29 #[.pointer (some ⟨B, 0, none⟩), .int .i64 (p : Int)] w (RdEnd w0 B tv L ((p : Int) + 2) T (D ++ dgs p [1]) (.bool false)) := by
  obtain ⟨vt, vd, vm, hv⟩ := h
  have c0 : w.cell? ⟨B, 0, none⟩ = some tv := hv.blk.cell 0
  have c1 : w.cell? ⟨B, 1, none⟩ = some (.int .i64 nx) := hv.blk.cell 1
  have f1 : w.frozen? ⟨B, 1, none⟩ = false := hv.blk.frozen (by simp)
  obtain ⟨at_, ct, rfl⟩ := hv.sl.len
  obtain ⟨N, hN⟩ : ∃ N, L.length = N := ⟨_, rfl⟩
  rw [hN] at c0 hv hd hL ⊢
  have HX : Hid (Rd w0 B (.slice at_ N ct) L (w.setCell ⟨B, 1, none⟩ (.int .i64 ((p : Int) + 2))) ((p : Int) + 2) T D) := Lib.hid ⟨vt, vd, vm, hv.next _⟩
  have HC := Lib.hid (fun W (h : Rd w0 B (.slice at_ N ct) L W ((p : Int) + 2) T D) => wrong_any 1 p W h (by omega) (by omega))
  have hz1 : (N : Int) < (p : Int) + 2 := by omega
  have hz3 : (p : Int) ≤ 20000 := by omega
  have hz4 : (0 : Int) ≤ (p : Int) := by omega
  clear hv hd hN
  go_enter Try.func29, Try.ntmps29
  go_wp2_with fail
  go_quiet (fail)
  go_wp2_with fail
  refine (HC.out _ (HX.out.drewN _)).mono ?_
  rintro e w5 ⟨rfl, h5⟩
  have H5 := Lib.hid h5
  clear h5 HC HX
  go_wp2_with fail
  go_ret
  exact ⟨rfl, H5.out⟩
end
end Go.Proofs.Ytpcbbhfbldchlaa
namespace Go.Proofs.Ytpcbbhfbldchlaa
open Go.RowKit
theorem escL_cons (d : Int) (q : List Int) : escL (d :: q) = match simC d with
    | some x => ([(1, x)], [], 2)
    | none =>
      if d = 38 ∨ d = 37 ∨ d = 47 ∨ d = 44 ∨ d = 58 then ([], [], 2)
      else if d = 34 then ([], [], q.length + 2)
      else if d = 40 ∨ d = 91 then (match nameL (d :: q) with
        | none => ([], [1], q.length + 2)
        | some (n, k) => match nmOf (enc n) with
          | some x => ([(1, x)], [], k + 1)
          | none => ([], [2], k + 1))
      else if d = 102 then (match nameL q with
        | none => ([], [1], q.length + 2)
        | some (n, k) => match ftOf (enc n) with
          | some x => ([(3, x)], [], k + 2)
          | none => ([], [2], k + 2))
      else ([], [1], 2) := rfl
theorem simC_some {d x : Int} (h : simC d = some x) : (d = 92 ∧ x = 92) ∨ (d = 101 ∧ x = 92) ∨ (d = 45 ∧ x = 45) ∨ (d = 96 ∧ x = 96) ∨ (d = 46 ∧ x = 46) ∨ (d = 39 ∧ x = 180) ∨ (d = 32 ∧ x = 160) ∨ (d = 126 ∧ x = 160) ∨ (d = 48 ∧ x = 160) := by
  unfold simC at h
  split at h
  · rename_i hd; cases h; rcases hd with rfl | rfl <;> decide
  · split at h
    · rename_i hd; cases h; rcases hd with rfl | rfl | rfl <;> decide
    · split at h
      · rename_i hd; cases h; subst hd; decide
      · split at h
        · rename_i hd; cases h; rcases hd with rfl | rfl | rfl <;> decide
        · cases h
theorem simC_none {d : Int} (h : simC d = none) : d ≠ 92 ∧ d ≠ 101 ∧ d ≠ 45 ∧ d ≠ 96 ∧ d ≠ 46 ∧ d ≠ 39 ∧ d ≠ 32 ∧ d ≠ 126 ∧ d ≠ 48 := by
  refine ⟨?_, ?_, ?_, ?_, ?_, ?_, ?_, ?_, ?_⟩ <;> (rintro rfl; exact absurd h (by decide))
section
variable {w0 : World} {B : Nat} {tv : Value} {L : List Int} {nx : Int} {T : List Tok} {D : List Dg}
def EscEnd (w0 : World) (B : Nat) (tv : Value) (L : List Int) (p : Nat) (T : List Tok) (D : List Dg) (t : List Tok) (d : List Int) (k : Nat) (e : Ending) (w' : World) : Prop :=
  ∃ (b : Bool) (nx' : Int), e = .returned (.bool b) ∧ Rd w0 B tv L w' nx' (T ++ t) (D ++ dgs p d) ∧ (b = true → nx' = ((p + k : Nat) : Int)) ∧ (b = false → L.length ≤ p + k)
theorem dgs_nil (D : List Dg) (p : Nat) : D ++ dgs p [] = D := by simp [dgs]
theorem escape_any (p : Nat) (w : World) (h : Rd w0 B tv L w nx T D) (hp : p < L.length) (hL : L.length ≤ 20000) (hT : T.length ≤ 20000) (hD : D.length ≤ 20000) {t : List Tok} {d : List Int} {k : Nat} (hs : escL (L.drop (p + 1)) = (t, d, k)) :
    Calls Try.prog 29 #[.pointer (some ⟨B, 0, none⟩), .int .i64 (p : Int)] w (EscEnd w0 B tv L p T D t d k) := by
  cases hR : L[p + 1]? with
  | none =>
    have hlen : L.length = p + 1 := by
      have := List.getElem?_eq_none_iff.1 hR
      omega
    rw [List.drop_eq_nil_of_le (by omega)] at hs
    cases hs
    exact (esc_end p w h hlen hL hD).mono fun e w' ⟨he, hr⟩ => ⟨false, _, he, by rw [List.append_nil]; exact hr, by simp, fun _ => by omega⟩
  | some c =>
    have hlt := (List.getElem?_eq_some_iff.1 hR).1
    have hql : (L.drop (p + 1 + 1)).length = L.length - (p + 2) := by rw [List.length_drop]
    have hdc := drop_cons hR
    rw [hdc, escL_cons, hql] at hs
    cases hsim : simC c with
    | some x =>
      rw [hsim] at hs
      cases hs
      exact (esc_char p c x w h hR hL hT hD (simC_some hsim)).mono fun e w' ⟨he, hr⟩ => ⟨true, _, he, by rw [dgs_nil]; exact hr, fun _ => by omega, by simp⟩
    | none =>
      rw [hsim] at hs
      simp only at hs
      obtain ⟨x1, x2, x3, x4, x5, x6, x7, x8, x9⟩ := simC_none hsim
      by_cases a1 : c = 38 ∨ c = 37 ∨ c = 47 ∨ c = 44 ∨ c = 58
      · rw [if_pos a1] at hs
        cases hs
        exact (esc_nothing p c w h hR hL hT hD a1).mono fun e w' ⟨he, hr⟩ => ⟨true, _, he, by rw [dgs_nil, List.append_nil]; exact hr, fun _ => by omega, by simp⟩
      · rw [if_neg a1] at hs
        by_cases a2 : c = 34
        · rw [if_pos a2] at hs
          cases hs
          exact (esc_comment p c w h hR hL hT hD a2).mono fun e w' ⟨he, hr⟩ => ⟨false, _, he, by rw [dgs_nil, List.append_nil]; exact hr, by simp, fun _ => by omega⟩
        · rw [if_neg a2] at hs
          by_cases a3 : c = 40 ∨ c = 91
          · rw [if_pos a3, ← hdc] at hs
            refine esc_named p c _ w h hR hL hT hD a3 (fun W v hv => by obtain ⟨b, nx', he, _⟩ := hv; exact ⟨b, he⟩) fun W hW => ?_
            cases hn : nameL (L.drop (p + 1)) with
            | none =>
              rw [hn] at hs
              cases hs
              exact (named_none p W hW (by omega) hL hD hn).mono fun e w' ⟨he, hr⟩ => ⟨false, _, he, by rw [List.append_nil]; exact hr, by simp, fun _ => by omega⟩
            | some nk =>
              obtain ⟨n, k'⟩ := nk
              rw [hn] at hs
              simp only at hs
              cases hm : nmOf (enc n) with
              | some x =>
                rw [hm] at hs
                cases hs
                exact (named_some p W hW (by omega) hL hT hD hn (.inl ⟨x, hm, rfl, rfl⟩)).mono fun e w' ⟨he, hr⟩ => ⟨true, _, he, hr, fun _ => by omega, by simp⟩
              | none =>
                rw [hm] at hs
                cases hs
                exact (named_some p W hW (by omega) hL hT hD hn (.inr ⟨hm, rfl, rfl⟩)).mono fun e w' ⟨he, hr⟩ => ⟨true, _, he, hr, fun _ => by omega, by simp⟩
          · rw [if_neg a3] at hs
            by_cases a4 : c = 102
            · rw [if_pos a4] at hs
              refine esc_font p c _ w h hR hL hT hD a4 (fun W v hv => by obtain ⟨b, nx', he, _⟩ := hv; exact ⟨b, he⟩) fun W hW => ?_
              cases hn : nameL (L.drop (p + 2)) with
              | none =>
                rw [show p + 1 + 1 = p + 2 by omega, hn] at hs
                cases hs
                exact (rfont_none p W hW (by omega) hL hD hn).mono fun e w' ⟨he, hr⟩ => ⟨false, _, he, by rw [List.append_nil]; exact hr, by simp, fun _ => by omega⟩
              | some nk =>
                obtain ⟨n, k'⟩ := nk
                rw [show p + 1 + 1 = p + 2 by omega, hn] at hs
                simp only at hs
                cases hm : ftOf (enc n) with
                | some x =>
                  rw [hm] at hs
                  cases hs
                  exact (rfont_some p W hW (by omega) hL hT hD hn (.inl ⟨x, hm, rfl, rfl⟩)).mono fun e w' ⟨he, hr⟩ => ⟨true, _, he, hr, fun _ => by omega, by simp⟩
                | none =>
                  rw [hm] at hs
                  cases hs
                  exact (rfont_some p W hW (by omega) hL hT hD hn (.inr ⟨hm, rfl, rfl⟩)).mono fun e w' ⟨he, hr⟩ => ⟨true, _, he, hr, fun _ => by omega, by simp⟩
            · rw [if_neg a4] at hs
              cases hs
              exact (esc_other p c w h hR hL hT hD ⟨x1, x2, x3, x4, x5, x6, x7, x8, x9, fun e => a1 (by simp [e]), fun e => a1 (by simp [e]), fun e => a1 (by simp [e]), fun e => a1 (by simp [e]), fun e => a1 (by simp [e]), a2, fun e => a3 (.inl e), fun e => a3 (.inr e), a4⟩).mono fun e w' ⟨he, hr⟩ => ⟨true, _, he, by rw [List.append_nil]; exact hr, fun _ => by omega, by simp⟩
end
end Go.Proofs.Ytpcbbhfbldchlaa
namespace Go.Proofs.Ytpcbbhfbldchlaa
open Go.RowKit
attribute [local go_sem ↓ high] builtin_appT builtin_appDg
def ScanAt (w1 : World) (B : Nat) (tv : Value) (L : List Int) (TT : List Tok) (DD : List Dg) (j : Nat) (W : World) : Prop :=
  ∃ (p : Nat) (nx : Int) (T : List Tok) (D : List Dg), Rd w1 B tv L W nx T D ∧ Sofar L TT DD p T D ∧ p ≤ L.length ∧ ((p = j ∧ nx ≤ j) ∨ (j < p ∧ nx = p))
theorem ScanAt.skip {w1 : World} {B : Nat} {tv : Value} {L : List Int} {TT : List Tok} {DD : List Dg} {j p : Nat} {W : World} {nx : Int} {T : List Tok} {D : List Dg} (h : Rd w1 B tv L W nx T D) (hs : Sofar L TT DD p T D) (hp : p ≤ L.length) (hj : j < p) (hn : nx = p) : ScanAt w1 B tv L TT DD (j + 1) W :=
  ⟨p, nx, T, D, h, hs, hp, by omega⟩
/-- Told: what a text says, what is wrong with it. -/
def ScanEnd (w : World) (b : List UInt8) (e : Ending) (w' : World) : Prop :=
  ∃ vt vd, e = .returned (.tuple #[vt, vd]) ∧ TOwn w.heap.size w' vt (scanL 0 (dec b)).1 ∧ DOwn w.heap.size w' vd (scanL 0 (dec b)).2 ∧ Below w.heap.size w w'
set_option maxRecDepth 100000 in
set_option maxHeartbeats 4000000 in
theorem scan_any (b : List UInt8) (w : World) (hb : b.length ≤ 2000) : Calls Try.prog 26 #[.string ⟨b.toArray⟩] w (ScanEnd w b) := by
  obtain ⟨u0, w0, k0, s0, b0⟩ := bytes_of_str w b
  have HD := Lib.hid (decode_any b u0 w0 s0 (by omega))
  have hdl := dec_le b
  unfold ScanEnd
  obtain ⟨L, hL⟩ : ∃ L, dec b = L := ⟨_, rfl⟩
  rw [hL] at HD hdl ⊢
  have HS0 := Lib.hid (Sofar.start L)
  obtain ⟨TT, hTT⟩ : ∃ TT, (scanL 0 L).1 = TT := ⟨_, rfl⟩
  obtain ⟨DD, hDD⟩ : ∃ DD, (scanL 0 L).2 = DD := ⟨_, rfl⟩
  rw [hTT, hDD] at HS0 ⊢
  have B0 := Lib.hid b0
  have z0 := b0.size
  clear hL hTT hDD s0 b0
  go_enter Try.func26, Try.ntmps26
  go_wp2_with fail
  go_step3
  go_wp2_with fail
  refine HD.out.mono ?_
  rintro e w1 ⟨u1, rfl, s1, b1⟩
  have B1 := Lib.hid (B0.out.trans (b1.mono z0))
  have S1 := Lib.hid s1
  obtain ⟨a1, c1, rfl⟩ := s1.len
  clear b1 HD s1
  go_wp2_with fail
  go_step3
  go_wp2_with fail
  obtain ⟨B, hB⟩ : ∃ B, w1.heap.size = B := ⟨_, rfl⟩
  have HR0 : Hid (Rd w1 w1.heap.size (.slice a1 L.length c1) L (w1.alloc (.cells #[.slice a1 L.length c1, .int .i64 0, .slice none 0 0, .slice none 0 0, .map none] 69)) 0 [] []) :=
    Lib.hid ⟨_, _, _, ⟨rfl, S1.out, below_lit w1 _, heap_alloc_new w1 _, FOwn.nil _ _, FOwn.nil _ _, .inl rfl⟩⟩
  have hwB : w.heap.size ≤ B := by have := B1.out.size; omega
  have HB1 := Lib.hid B1.out
  rw [hB] at HR0 ⊢
  obtain ⟨W2, hW2⟩ : ∃ W2, w1.alloc (.cells #[.slice a1 L.length c1, .int .i64 0, .slice none 0 0, .slice none 0 0, .map none] 69) = W2 := ⟨_, rfl⟩
  rw [hW2] at HR0 ⊢
  have HSB := Lib.hid hB
  clear hW2 hB B1 B0
  go_loopw [14] (fun i wr => ∃ j : Nat, j ≤ L.length ∧ i = .int .i64 j ∧ ScanAt w1 B (.slice a1 L.length c1) L TT DD j wr) (fun i _ => L.length - (intOf i).toNat)
  case atStart => exact ⟨0, by omega, rfl, 0, 0, [], [], HR0.out, HS0.out, by omega, .inl ⟨rfl, by omega⟩⟩
  case round =>
    obtain ⟨j, hj, rfl, p, nx, T, D, hR, hS, hpL, hcase⟩ := hrel
    have HR := Lib.hid hR
    have HSo := Lib.hid hS
    obtain ⟨vt, vd, vm, hv⟩ := hR
    have HV := Lib.hid hv
    have k0 : wr.cell? ⟨B, 0, none⟩ = some (.slice a1 L.length c1) := hv.blk.cell 0
    have k1 : wr.cell? ⟨B, 1, none⟩ = some (.int .i64 nx) := hv.blk.cell 1
    have tl := hS.tl
    have dl := hS.dl
    clear hv hS HR0 HS0
    by_cases hlt : j < L.length
    · obtain ⟨c, hc⟩ : ∃ c, L[j]? = some c := ⟨L[j], List.getElem?_eq_getElem hlt⟩
      obtain ⟨g, off, rfl, c5⟩ := (HV.out.text).at hc
      have hi0 : (j : Int) < (L.length : Int) := by omega
      have hi1 : (0 : Int) ≤ (j : Int) := by omega
      rcases hcase with ⟨rfl, hnx⟩ | ⟨hjp, hnx⟩
      · have hnx' : ¬ (p : Int) < nx := by omega
        have HST := Lib.hid (step_at hc)
        have HNX := Lib.hid (fun t d k (h : stepL (L.drop p) = (t, d, k)) => HSo.out.next hlt h)
        by_cases c92 : c = 92
        · subst c92
          obtain ⟨⟨t, d, k⟩, hs⟩ : ∃ q, escL (L.drop (p + 1)) = q := ⟨_, rfl⟩
          have HE := Lib.hid (escape_any p wr HR.out hlt (by omega) (by omega) (by omega) hs)
          have hbd := escL_bd (L.drop (p + 1))
          rw [hs] at hbd
          obtain ⟨-, -, kb1, kb2⟩ := hbd
          simp only [List.length_drop] at kb1 kb2
          have HS2 : Hid (Sofar L TT DD (p + k) (T ++ t) (D ++ dgs p d)) := Lib.hid (HNX.out t d k (by rw [HST.out, if_pos rfl, hs]))
          clear hs HST HNX hc hpL
          go_wp2_with fail
          refine HE.out.mono ?_
          rintro e w2 ⟨bb, nx', rfl, hr2, ht, hf⟩
          cases bb with
          | true =>
            have HN : Hid (ScanAt w1 B (.slice (some ⟨g, off, none⟩) L.length c1) L TT DD (p + 1) w2) := Lib.hid ⟨p + k, nx', _, _, hr2, HS2.out, by omega, by have := ht rfl; omega⟩
            clear ht hf hr2 HE HS2 HR HSo HV
            go_wp2_with fail
            go_roundw
            case rel => exact ⟨p + 1, by omega, by go_num, HN.out⟩
            case measure => (simp [intOf]; try omega)
          | false =>
            obtain ⟨rfl, rfl⟩ := HS2.out.done (hf rfl)
            obtain ⟨vt2, vd2, vm2, hv2⟩ := hr2
            have k2 : w2.cell? ⟨B, 2, none⟩ = some vt2 := hv2.blk.cell 2
            have k3 : w2.cell? ⟨B, 3, none⟩ = some vd2 := hv2.blk.cell 3
            have HT := Lib.hid (hv2.tk.mono (base' := w.heap.size) (by omega))
            have HDg := Lib.hid (hv2.dg.mono (base' := w.heap.size) (by omega))
            have HB2 := Lib.hid (HB1.out.trans (hv2.bel.mono hwB))
            clear ht hf hv2 HE HS2 HR HSo HV tl dl kb1 kb2
            go_wp2_with fail
            go_quiet (fail)
            go_wp2_with fail
            try rw [Exit.noGoto_ret]
            go_ret2
            exact ⟨vt2, vd2, rfl, HT.out.keep (below_drewN (Below.refl _ _) _), HDg.out.keep (below_drewN (Below.refl _ _) _), below_drewN HB2.out _⟩
        · have e92 : (c == 92) = false := by simpa using c92
          by_cases cb : c = 32 ∨ c = 9
          · have HS2 : Hid (Sofar L TT DD (p + 1) (T ++ [(2, 0)]) D) := Lib.hid (by
              have := HNX.out [(2, 0)] [] 1 (by rw [HST.out, if_neg c92, if_pos cb])
              rw [dgs_nil] at this
              exact this)
            have k2 : wr.cell? ⟨B, 2, none⟩ = some vt := HV.out.blk.cell 2
            obtain ⟨vt', w3, k3, q3, f3, r3⟩ := HV.out.say 2 0 (by omega)
            obtain ⟨a2, n2, rfl⟩ := (FOwn.sl tcell_len HV.out.tk).len
            obtain ⟨a3, n3, rfl⟩ := (FOwn.sl tcell_len r3.tk).len
            have HN : Hid (ScanAt w1 B (.slice (some ⟨g, off, none⟩) L.length c1) L TT DD (p + 1) (w3.setCell ⟨B, 2, none⟩ (.slice a3 (T ++ [(2, 0)]).length n3))) := Lib.hid ⟨p + 1, nx, _, _, ⟨_, _, _, r3⟩, HS2.out, by omega, .inl ⟨rfl, by omega⟩⟩
            obtain ⟨m, hm⟩ : ∃ m, (T ++ [((2 : Int), (0 : Int))]).length = m := ⟨_, rfl⟩
            rw [hm] at k3 HN
            clear hm r3 HST HNX HR HV HSo HS2 hc
            rcases cb with rfl | rfl
            all_goals
              go_wp2_with fail
              go_roundw
              case rel => exact ⟨p + 1, by omega, by go_num, HN.out⟩
              case measure => (simp [intOf]; try omega)
          · have e32 : (c == 32) = false := by simpa using fun h : c = 32 => cb (.inl h)
            have e9 : (c == 9) = false := by simpa using fun h : c = 9 => cb (.inr h)
            have HCT := Lib.hid (fun W => control_any c W)
            cases hctl : ctl c with
            | true =>
              rw [hctl] at HCT
              have HS2 : Hid (Sofar L TT DD (p + 1) (T ++ [(1, 65533)]) (D ++ dgs p [3])) := Lib.hid (HNX.out [(1, 65533)] [3] 1 (by rw [HST.out, if_neg c92, if_neg cb, if_pos hctl]))
              have HW := Lib.hid (wrong_any 3 p wr HR.out (by omega) (by omega))
              clear HST HNX HR HV HSo hc hctl c92 cb
              go_wp2_with fail
              refine (HCT.out _).mono ?_
              rintro e w2 ⟨rfl, rfl⟩
              clear HCT
              go_wp2_with fail
              refine HW.out.mono ?_
              rintro e w2 ⟨rfl, h2⟩
              have HC := Lib.hid (char_any 65533 w2 h2 (by omega))
              clear HW h2
              go_wp2_with fail
              refine HC.out.mono ?_
              rintro e w3 ⟨rfl, h3⟩
              have HN : Hid (ScanAt w1 B (.slice (some ⟨g, off, none⟩) L.length c1) L TT DD (p + 1) w3) := Lib.hid ⟨p + 1, nx, _, _, h3, HS2.out, by omega, .inl ⟨rfl, by omega⟩⟩
              clear HC h3 HS2
              go_wp2_with fail
              go_roundw
              case rel => exact ⟨p + 1, by omega, by go_num, HN.out⟩
              case measure => (simp [intOf]; try omega)
            | false =>
              rw [hctl] at HCT
              have HS2 : Hid (Sofar L TT DD (p + 1) (T ++ [(1, c)]) D) := Lib.hid (by
                have := HNX.out [(1, c)] [] 1 (by rw [HST.out, if_neg c92, if_neg cb, if_neg (by rw [hctl]; decide)])
                rw [dgs_nil] at this
                exact this)
              have HC := Lib.hid (char_any c wr HR.out (by omega))
              clear HST HNX HR HV HSo hc hctl c92 cb
              go_wp2_with fail
              refine (HCT.out _).mono ?_
              rintro e w2 ⟨rfl, rfl⟩
              clear HCT
              go_wp2_with fail
              refine HC.out.mono ?_
              rintro e w3 ⟨rfl, h3⟩
              have HN : Hid (ScanAt w1 B (.slice (some ⟨g, off, none⟩) L.length c1) L TT DD (p + 1) w3) := Lib.hid ⟨p + 1, nx, _, _, h3, HS2.out, by omega, .inl ⟨rfl, by omega⟩⟩
              clear HC h3 HS2
              go_wp2_with fail
              go_roundw
              case rel => exact ⟨p + 1, by omega, by go_num, HN.out⟩
              case measure => (simp [intOf]; try omega)
      · have HN : Hid (ScanAt w1 B (.slice (some ⟨g, off, none⟩) L.length c1) L TT DD (j + 1) wr) := Lib.hid (ScanAt.skip HR.out HSo.out hpL hjp hnx)
        have hnx' : (j : Int) < nx := by omega
        clear hc HR HSo HV hnx
        go_wp2_with fail
        go_roundw
        case rel => exact ⟨j + 1, by omega, by go_num, HN.out⟩
        case measure => (simp [intOf]; try omega)
    · obtain rfl : j = L.length := by omega
      obtain ⟨rfl, rfl⟩ := HSo.out.done (by omega)
      have k2 : wr.cell? ⟨B, 2, none⟩ = some vt := HV.out.blk.cell 2
      have k3 : wr.cell? ⟨B, 3, none⟩ = some vd := HV.out.blk.cell 3
      have HT := Lib.hid (HV.out.tk.mono (base' := w.heap.size) (by omega))
      have HDg := Lib.hid (HV.out.dg.mono (base' := w.heap.size) (by omega))
      have HB2 := Lib.hid (HB1.out.trans (HV.out.bel.mono hwB))
      clear HR HV HSo hcase tl dl
      go_wp2_with fail
      go_quiet (fail)
      go_wp2_with fail
      try rw [Exit.noGoto_ret]
      go_ret2
      exact ⟨vt, vd, rfl, HT.out.keep (below_drewN (Below.refl _ _) _), HDg.out.keep (below_drewN (Below.refl _ _) _), below_drewN HB2.out _⟩
end Go.Proofs.Ytpcbbhfbldchlaa
namespace Go.Proofs.Ytpcbbhfbldchlaa
open Go.RowKit
def LEnd (w : World) (c : List Gly × Fce) (D : List Dg) (e : Ending) (w' : World) : Prop :=
  ∃ x vd, e = .returned (.tuple #[x, .agg #[.int .u8 c.2.1, .int .u8 c.2.2], vd]) ∧ GOwn w.heap.size w' x c.1 ∧ DOwn w.heap.size w' vd D ∧ Below w.heap.size w w'
set_option maxRecDepth 100000 in
set_option maxHeartbeats 4000000 in
theorem line_any (p q : Int) (b : List UInt8) (w : World) (hb : b.length ≤ 2000) :
    Calls Try.prog 23 #[.agg #[.int .u8 p, .int .u8 q], .string ⟨b.toArray⟩] w (LEnd w (gset (p, q) (scanL 0 (dec b)).1) (scanL 0 (dec b)).2) := by
  have hdl := dec_le b
  obtain ⟨W2, hW2⟩ : ∃ W2, (w.alloc (.cells #[.int .u8 p, .int .u8 q] 54)).alloc (.cells #[.int .u8 0, .int .u8 0] 54) = W2 := ⟨_, rfl⟩
  have hR0 := SetR.start w p q
  rw [hW2] at hR0
  have HA := Lib.hid (scan_any b W2 (by omega))
  have hlen := scan_len (dec b)
  unfold ScanEnd at HA
  obtain ⟨TT, hTT⟩ : ∃ TT, (scanL 0 (dec b)).1 = TT := ⟨_, rfl⟩
  obtain ⟨DD, hDD⟩ : ∃ DD, (scanL 0 (dec b)).2 = DD := ⟨_, rfl⟩
  rw [hTT, hDD] at HA hlen ⊢
  have htl : TT.length ≤ 100000 := by omega
  obtain ⟨⟨X, A, B⟩, hS⟩ : ∃ S, gset (p, q) TT = S := ⟨_, rfl⟩
  have HS := Lib.hid (fun v W (h : Ts W v TT) => set_any p q TT v W h htl)
  unfold SEnd at HS
  rw [hS] at HS ⊢
  have R0 := Lib.hid hR0
  clear hdl hlen hTT hDD hS htl hR0
  go_enter Try.func23, Try.ntmps23
  go_wp2_with fail
  refine HA.out.mono ?_
  rintro e w1 ⟨vt, vd, rfl, o1, o2, b1⟩
  have h1 := R0.out.keep b1
  have c0 : w1.cell? ⟨w.heap.size, 0, none⟩ = some (.int .u8 p) := h1.b0.cell 0
  have c1 : w1.cell? ⟨w.heap.size, 1, none⟩ = some (.int .u8 q) := h1.b0.cell 1
  have hbig := h1.big
  have z2 := R0.out.big
  have HS1 := Lib.hid (HS.out vt w1 (FOwn.sl tcell_len o1))
  have R1 := Lib.hid h1
  have O2 := Lib.hid o2
  obtain ⟨ta, tc, rfl⟩ := (FOwn.sl tcell_len o1).len
  obtain ⟨da, dc, rfl⟩ := (FOwn.sl edcell_len o2).len
  obtain ⟨n1, hn1⟩ : ∃ n, TT.length = n := ⟨_, rfl⟩
  obtain ⟨n2, hn2⟩ : ∃ n, DD.length = n := ⟨_, rfl⟩
  rw [hn1] at HS1
  rw [hn2] at O2
  rw [hn1, hn2]
  clear h1 o1 o2 b1 HA HS hn1 hn2 R0 hW2
  go_wp2_with fail
  refine HS1.out.mono ?_
  rintro e w2 ⟨x, rfl, ox, bx⟩
  have h2 := R1.out.keep bx
  have h3 := h2.turn A B
  have g0 : w2.cell? ⟨w.heap.size, 0, none⟩ = some (.int .u8 p) := h2.b0.cell 0
  have g1 : w2.cell? ⟨w.heap.size, 1, none⟩ = some (.int .u8 q) := h2.b0.cell 1
  have e0 : w2.frozen? ⟨w.heap.size, 0, none⟩ = false := h2.b0.frozen (by simp)
  have e1 : w2.frozen? ⟨w.heap.size, 1, none⟩ = false := h2.b0.frozen (by simp)
  have hz2 := bx.size
  have ox2 : GOwn w1.heap.size ((w2.setCell ⟨w.heap.size, 0, none⟩ (.int .u8 A)).setCell ⟨w.heap.size, 1, none⟩ (.int .u8 B)) x X := ownsRow_setCell_below (ownsRow_setCell_below ox (by simp only; omega) _) (by simp only; omega) _
  have od2 : DOwn W2.heap.size ((w2.setCell ⟨w.heap.size, 0, none⟩ (.int .u8 A)).setCell ⟨w.heap.size, 1, none⟩ (.int .u8 B)) (.slice da n2 dc) DD := ownsRow_setCell_below (ownsRow_setCell_below (O2.out.keep bx) (by simp only; omega) _) (by simp only; omega) _
  clear c0 c1 HS1 R1 bx O2 ox
  obtain ⟨sa, sc, hs⟩ := (FOwn.sl gcell_len ox2).len
  obtain ⟨xl, hxl⟩ : ∃ xl, X.length = xl := ⟨_, rfl⟩
  rw [hxl] at hs
  subst hs
  have HF := Lib.hid h3
  have HX := Lib.hid ox2
  have HD := Lib.hid od2
  clear h2 h3 ox2 od2 hxl
  go_wp2_with fail
  obtain ⟨W3, hW3⟩ : ∃ W3, (w2.setCell ⟨w.heap.size, 0, none⟩ (.int .u8 A)).setCell ⟨w.heap.size, 1, none⟩ (.int .u8 B) = W3 := ⟨_, rfl⟩
  rw [hW3] at HF HX HD
  have k0 : W3.cell? ⟨w.heap.size, 0, none⟩ = some (.int .u8 A) := HF.out.b0.cell 0
  have k1 : W3.cell? ⟨w.heap.size, 1, none⟩ = some (.int .u8 B) := HF.out.b0.cell 1
  have k2 : W3.cell? ⟨w.heap.size + 1, 0, none⟩ = some (.int .u8 0) := HF.out.b1.cell 0
  have k3 : W3.cell? ⟨w.heap.size + 1, 1, none⟩ = some (.int .u8 0) := HF.out.b1.cell 1
  have k4 : W3.frozen? ⟨w.heap.size + 1, 0, none⟩ = false := HF.out.b1.frozen (by simp)
  have k5 : W3.frozen? ⟨w.heap.size + 1, 1, none⟩ = false := HF.out.b1.frozen (by simp)
  rw [hW3]
  obtain ⟨-, o4, o5⟩ := HF.out.fin (.int .u8 A) (.int .u8 B)
  have q0 := o5.cell 0
  have q1 := o5.cell 1
  have o6 : GOwn w1.heap.size ((W3.setCell ⟨w.heap.size + 1, 0, none⟩ (.int .u8 A)).setCell ⟨w.heap.size + 1, 1, none⟩ (.int .u8 B)) (.slice sa xl sc) X := ownsRow_setCell_below (ownsRow_setCell_below HX.out (by simp only; omega) _) (by simp only; omega) _
  have o7 : DOwn W2.heap.size ((W3.setCell ⟨w.heap.size + 1, 0, none⟩ (.int .u8 A)).setCell ⟨w.heap.size + 1, 1, none⟩ (.int .u8 B)) (.slice da n2 dc) DD := ownsRow_setCell_below (ownsRow_setCell_below HD.out (by simp only; omega) _) (by simp only; omega) _
  have O6 := Lib.hid (FOwn.mono (base' := w.heap.size) (o6.keep (Below.refl _ _).drew) (by omega))
  have O7 := Lib.hid (FOwn.mono (base' := w.heap.size) (o7.keep (Below.refl _ _).drew) (by omega))
  have O4 := Lib.hid o4
  simp at q0 q1
  clear o4 o5 o6 o7 HX HD HF hW3
  go_region
  go_wp2_with fail
  exact bodyPost_ret (v := .tuple #[.slice sa xl sc, .agg #[.int .u8 A, .int .u8 B], .slice da n2 dc]) (by simp [results, Try.results23, go_sem, q0, q1]) rfl ⟨_, _, rfl, O6.out, O7.out, O4.out⟩
end Go.Proofs.Ytpcbbhfbldchlaa
