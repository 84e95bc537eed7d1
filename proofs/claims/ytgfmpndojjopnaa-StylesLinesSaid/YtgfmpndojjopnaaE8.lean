/- A reader's name. -/
import Derived.Test.YtgfmpndojjopnaaE7
namespace Go.Proofs.Ytgfmpndojjopnaa
open Go.RowKit

attribute [local go_sem ↓ high] slice_backR slice_midR
section
variable {w0 : World} {B : Nat} {tv : Value} {L : List Int} {nx : Int} {T : List Tok} {D : List Dg}
set_option maxRecDepth 100000 in
set_option maxHeartbeats 1000000 in
theorem rname_none (q : Nat) (w : World) (h : Rd w0 B tv L w nx T D) (hq : q ≤ L.length) (hL : L.length ≤ 100000) (hn : nameL (L.drop q) = none) :
    Calls Try.prog 44 #[.pointer (some ⟨B, 0, none⟩), .int .i64 (q : Int)] w (RdEnd w0 B tv L nx T D (.tuple #[.string ⟨#[]⟩, .bool false])) := by
  have HR := Lib.hid h
  obtain ⟨vt, vd, vm, hv⟩ := h
  have c0 : w.cell? ⟨B, 0, none⟩ = some tv := hv.blk.cell 0
  obtain ⟨u, ku, su⟩ := backR_run hv.text q hq
  have hdl : (L.drop q).length = L.length - q := by rw [List.length_drop]
  obtain ⟨S, hS⟩ : ∃ S, L.drop q = S := ⟨_, rfl⟩
  rw [hS] at su hdl hn
  obtain ⟨at_, ct, rfl⟩ := hv.sl.len
  clear hv hS
  cases S with
  | nil =>
    obtain ⟨au, cu, rfl⟩ := su.len
    clear su hn
    simp only [List.length_nil] at ku
    go_enter Try.func44, Try.ntmps44
    go_wp2_with fail
    go_ret2
    exact ⟨rfl, HR.out⟩
  | cons c r =>
    have HI := Lib.hid (index_any (c :: r) u w su (by omega))
    obtain ⟨au, cu, rfl⟩ := su.len
    obtain ⟨g, off, rfl, cc⟩ := su.at (j := 0) (z := c) rfl
    rw [nameL_cons] at hn
    have cc' : w.cell? ⟨g, off, none⟩ = some (.int .i32 c) := cc
    obtain ⟨N, hN⟩ : ∃ N, (c :: r).length = N := ⟨_, rfl⟩
    rw [hN] at ku hdl
    simp only [List.length_cons] at hN
    clear su cc
    rw [show (Value.slice (some (⟨g, off, none⟩ : Addr)) (c :: r).length cu) = .slice (some ⟨g, off, none⟩) N cu by rw [← hN]; rfl] at HI
    have hz : ((N : Int) == 0) = false := by simp; omega
    have hz1 : (0 : Int) < (N : Int) := by omega
    have hz9 : N ≤ 100000 := by omega
    have HN := Lib.hid hN
    clear hdl hN
    by_cases h40 : c = 40
    · subst h40
      rw [if_pos rfl] at hn
      have hlen : r.length < 2 := by
        by_cases hlen : r.length < 2
        · exact hlen
        · rw [if_neg hlen] at hn; cases hn
      have hz2 : (N : Int) < 3 := by have := HN.out; omega
      clear hn HI
      go_enter Try.func44, Try.ntmps44
      go_wp2_with fail
      go_ret2
      exact ⟨rfl, HR.out⟩
    · rw [if_neg h40] at hn
      have e40 : (c == 40) = false := by simpa using h40
      by_cases h91 : c = 91
      · subst h91
        rw [if_pos rfl] at hn
        have hix : ix (91 :: r) = none := by
          rw [ix_cons, if_neg (by decide)]
          cases hr : ix r with
          | none => rfl
          | some k => rw [hr] at hn; cases hn
        rw [hix] at HI
        have HI' : Hid (Calls Try.prog 54 #[.slice (some ⟨g, off, none⟩) N cu, .int .i32 93] w fun e w' => e = .returned (.int .i64 (-1)) ∧ w = w') := HI
        clear hn HI h40 hix
        go_enter Try.func44, Try.ntmps44
        go_wp2_with fail
        refine HI'.out.mono ?_
        rintro e w' ⟨rfl, rfl⟩
        clear HI'
        go_wp2_with fail
        go_ret2
        exact ⟨rfl, HR.out⟩
      · rw [if_neg h91] at hn
        cases hn

set_option maxRecDepth 100000 in
set_option maxHeartbeats 1000000 in
theorem rname_some (q : Nat) (w : World) (h : Rd w0 B tv L w nx T D) (hq : q ≤ L.length) (hL : L.length ≤ 100000) {n : List Int} {k : Nat} (hn : nameL (L.drop q) = some (n, k)) :
    Calls Try.prog 44 #[.pointer (some ⟨B, 0, none⟩), .int .i64 (q : Int)] w (RdEnd w0 B tv L ((q + k : Nat) : Int) T D (.tuple #[.string ⟨(enc n).toArray⟩, .bool true])) := by
  obtain ⟨vt, vd, vm, hv⟩ := h
  have c0 : w.cell? ⟨B, 0, none⟩ = some tv := hv.blk.cell 0
  have c1 : w.cell? ⟨B, 1, none⟩ = some (.int .i64 nx) := hv.blk.cell 1
  have f1 : w.frozen? ⟨B, 1, none⟩ = false := hv.blk.frozen (by simp)
  obtain ⟨u, ku, su0⟩ := backR_run hv.sl q hq
  have su := su0.below (by rw [hv.hB]; exact hv.bel)
  have hdl : (L.drop q).length = L.length - q := by rw [List.length_drop]
  obtain ⟨S, hS⟩ : ∃ S, L.drop q = S := ⟨_, rfl⟩
  rw [hS] at su su0 hdl hn
  obtain ⟨at_, ct, rfl⟩ := hv.sl.len
  have HNX := Lib.hid (fun x => RdV.next hv x)
  have HM := Lib.hid (fun (a b : Nat) (hab : a ≤ b) (hb : b ≤ S.length) => midR_run su0 a b hab hb)
  have HB := Lib.hid hv.hB
  clear hv hS su0
  cases S with
  | nil => cases hn
  | cons c r =>
    have HI := Lib.hid (index_any (c :: r) u w su (by omega))
    obtain ⟨au, cu, rfl⟩ := su.len
    obtain ⟨g, off, rfl, cc⟩ := su.at (j := 0) (z := c) rfl
    rw [nameL_cons] at hn
    have cc' : w.cell? ⟨g, off, none⟩ = some (.int .i32 c) := cc
    obtain ⟨N, hN⟩ : ∃ N, (c :: r).length = N := ⟨_, rfl⟩
    rw [hN] at ku hdl HM
    simp only [List.length_cons] at hN
    clear su cc
    rw [show (Value.slice (some (⟨g, off, none⟩ : Addr)) (c :: r).length cu) = .slice (some ⟨g, off, none⟩) N cu by rw [← hN]; rfl] at HI
    have hz : ((N : Int) == 0) = false := by simp; omega
    have hz1 : (0 : Int) < (N : Int) := by omega
    have hz9 : N ≤ 100000 := by omega
    have HN := Lib.hid hN
    clear hdl hN
    by_cases h40 : c = 40
    · subst h40
      rw [if_pos rfl] at hn
      have hlen : 2 ≤ r.length := by
        by_cases hlen : r.length < 2
        · rw [if_pos hlen] at hn; cases hn
        · omega
      rw [if_neg (by omega)] at hn
      simp only [Option.some.injEq, Prod.mk.injEq] at hn
      obtain ⟨rfl, rfl⟩ := hn
      have hz2 : ¬ (N : Int) < 3 := by have := HN.out; omega
      have HX := Lib.hid (HNX.out ((q : Int) + 3))
      obtain ⟨u2, k2, s2⟩ := HM.out 1 3 (by omega) (by have := HN.out; omega)
      have k2' : ∀ W : World, (midR (.slice (some ⟨g, off, none⟩) N cu) (.int .i64 1) (.int .i64 3)).run Try.prog W = .ok u2 W := k2
      have e2 : ((40 :: r).take 3).drop 1 = r.take 2 := by simp
      rw [e2] at s2
      have k3 := str_of_runes (s2.below (by rw [HB.out]; exact HX.out.bel))
      clear HI k2 s2 HM HNX e2
      go_enter Try.func44, Try.ntmps44
      go_wp2_with fail
      go_ret2
      exact ⟨rfl, _, _, _, HX.out⟩
    · rw [if_neg h40] at hn
      have e40 : (c == 40) = false := by simpa using h40
      by_cases h91 : c = 91
      · subst h91
        rw [if_pos rfl] at hn
        obtain ⟨j, hj⟩ : ∃ j, ix r = some j := by
          cases hr : ix r with
          | none => rw [hr] at hn; cases hn
          | some j => exact ⟨j, rfl⟩
        rw [hj] at hn
        simp only [Option.some.injEq, Prod.mk.injEq] at hn
        obtain ⟨rfl, rfl⟩ := hn
        have hjl := ix_lt r j hj
        have hix : ix (91 :: r) = some (j + 1) := by rw [ix_cons, if_neg (by decide), hj]; rfl
        rw [hix] at HI
        have HI' : Hid (Calls Try.prog 54 #[.slice (some ⟨g, off, none⟩) N cu, .int .i32 93] w fun e w' => e = .returned (.int .i64 ((j : Int) + 1)) ∧ w = w') := HI
        have HX := Lib.hid (HNX.out ((q : Int) + ((j : Int) + 1 + 1)))
        rw [show (q : Int) + ((j : Int) + 1 + 1) = ((q + (j + 2) : Nat) : Int) by omega] at HX
        have hE := Lib.hid (show ((q + (j + 2) : Nat) : Int) = (q : Int) + ((j : Int) + 1 + 1) by omega)
        obtain ⟨u2, k2, s2⟩ := HM.out 1 (j + 1) (by omega) (by have := HN.out; omega)
        have k2' : ∀ W : World, (midR (.slice (some ⟨g, off, none⟩) N cu) (.int .i64 1) (.int .i64 ((j : Int) + 1))).run Try.prog W = .ok u2 W := k2
        have e2 : ((91 :: r).take (j + 1)).drop 1 = r.take j := by simp
        rw [e2] at s2
        have k3 := str_of_runes (s2.below (by rw [HB.out]; exact HX.out.bel))
        rw [hE.out] at k3
        have hj1 : ¬ (N : Int) < (j : Int) + 1 := by have := HN.out; omega
        have hj2 : ¬ (j : Int) + 1 < 1 := by omega
        have hj3 : (j : Int) ≤ 100000 := by omega
        have hj4 : (0 : Int) ≤ (j : Int) := by omega
        have hq4 : (q : Int) ≤ 100000 := by omega
        clear HI h40 hix HM HNX e2 k2 s2 hj hjl hz1
        go_enter Try.func44, Try.ntmps44
        go_wp2_with fail
        refine HI'.out.mono ?_
        rintro e w' ⟨rfl, rfl⟩
        clear HI'
        go_wp2_with fail
        go_ret2
        have := HX.out
        rw [hE.out] at this
        exact ⟨rfl, vt, vd, vm, by rw [hE.out]; exact this⟩
      · rw [if_neg h91] at hn
        simp only [Option.some.injEq, Prod.mk.injEq] at hn
        obtain ⟨rfl, rfl⟩ := hn
        have e91 : (c == 91) = false := by simpa using h91
        have hz2 : ¬ (N : Int) < 1 := by have := HN.out; omega
        have HX := Lib.hid (HNX.out ((q : Int) + 1))
        obtain ⟨u2, k2, s2⟩ := HM.out 0 1 (by omega) (by have := HN.out; omega)
        have k2' : ∀ W : World, (midR (.slice (some ⟨g, off, none⟩) N cu) (.int .i64 0) (.int .i64 1)).run Try.prog W = .ok u2 W := k2
        have e2 : ((c :: r).take 1).drop 0 = [c] := by simp
        rw [e2] at s2
        have k3 := str_of_runes (s2.below (by rw [HB.out]; exact HX.out.bel))
        clear HI k2 s2 HM HNX e2
        go_enter Try.func44, Try.ntmps44
        go_wp2_with fail
        go_ret2
        exact ⟨rfl, _, _, _, HX.out⟩
end
end Go.Proofs.Ytgfmpndojjopnaa
