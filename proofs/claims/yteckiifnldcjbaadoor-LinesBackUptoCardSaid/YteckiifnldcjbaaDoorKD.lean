/- A reader reads a line. -/
import Derived.Test.YteckiifnldcjbaaDoorKC
namespace Go.Proofs.YteckiifnldcjbaaDoor
open Go.RowKit
attribute [local go_sem ↓ high] binop_eqlS binop_neqS

/-- What a reader knows between two lines. -/
structure St where
  ln : Int
  fi : Int
  tx : List UInt8
  rows : List Row
  dg : List Dg
def St.stop (s : St) : St := if s.fi = 0 then s else ⟨s.ln, 0, [], s.rows ++ (tellRow s.fi s.tx).1, s.dg ++ (tellRow s.fi s.tx).2⟩
def St.more (s : St) (fi : Int) (u : List UInt8) : St :=
  if sl u then ⟨s.ln + 1, fi, s.tx ++ u.take (u.length - 1), s.rows, s.dg⟩
  else ⟨s.ln + 1, 0, [], s.rows ++ (tellRow fi (s.tx ++ u)).1, s.dg ++ (tellRow fi (s.tx ++ u)).2⟩
def St.step (s : St) (line : List UInt8) : St :=
  if s.fi = 0 then (if (unc line).2 = true ∧ (unc line).1 = [] then { s with ln := s.ln + 1 } else s.more (s.ln + 1) (unc line).1)
  else s.more s.fi (unc line).1
def RSS (base B : Nat) (W : World) (s : St) : Prop := ∃ va vb vr vd, RS base B W s.ln s.fi va vb vr vd s.tx s.rows s.dg
def REnd (base B : Nat) (W : World) (s : St) (e : Ending) (W' : World) : Prop := e = .returned (.tuple #[]) ∧ RSS base B W' s ∧ Fr base B W W'
theorem REnd.mk {base B : Nat} {W W' : World} {s : St} {e : Ending} {va vb vr vd : Value} (h0 : e = .returned (.tuple #[])) (h1 : RS base B W' s.ln s.fi va vb vr vd s.tx s.rows s.dg) (h2 : Fr base B W W') : REnd base B W s e W' := ⟨h0, ⟨_, _, _, _, h1⟩, h2⟩
theorem unc_le (l : List UInt8) : (unc l).1.length ≤ l.length := by
  unfold unc
  split
  · simp only [List.length_take]; omega
  · simp
theorem sl_pos {l : List UInt8} (h : sl l = true) : 1 ≤ l.length := by
  cases l with
  | nil => simp [sl] at h
  | cons _ _ => simp

theorem stop_any {base B : Nat} (W : World) (s : St) (h : RSS base B W s) (hM : ∀ W', Fr base B W W' → Mx W') (ht : s.tx.length ≤ 100000) (hr : s.rows.length ≤ 100000) (hd : s.dg.length ≤ 100000) :
    Calls Tryd.prog 43 #[.pointer (some ⟨B, 0, none⟩)] W (REnd base B W s.stop) := by
  obtain ⟨va, vb, vr, vd, h⟩ := h
  by_cases hf : s.fi = 0
  · have e : s.stop = s := by unfold St.stop; rw [if_pos hf]
    rw [e]
    rw [hf] at h
    refine (end_none W h).mono ?_
    rintro e w' ⟨va', vb', vr', vd', rfl, r, q⟩
    rw [← hf] at r
    exact ⟨rfl, ⟨_, _, _, _, r⟩, q⟩
  · have e : s.stop = ⟨s.ln, 0, [], s.rows ++ (tellRow s.fi s.tx).1, s.dg ++ (tellRow s.fi s.tx).2⟩ := by unfold St.stop; rw [if_neg hf]
    rw [e]
    refine (end_any W h hM hf ht hr hd).mono ?_
    rintro e w' ⟨va', vb', vr', vd', rfl, r, q⟩
    exact ⟨rfl, ⟨_, _, _, _, r⟩, q⟩

set_option maxRecDepth 100000 in
set_option maxHeartbeats 4000000 in
theorem read_any {base B : Nat} (W : World) (s : St) (h : RSS base B W s) (hM : ∀ W', Fr base B W W' → Mx W') (line : List UInt8) (hln : 0 ≤ s.ln) (hlh : s.ln ≤ 1000000) (hfi : 0 ≤ s.fi) (ht : s.tx.length + line.length ≤ 100000) (hr : s.rows.length ≤ 100000) (hd : s.dg.length ≤ 100000) :
    Calls Tryd.prog 42 #[.pointer (some ⟨B, 0, none⟩), .string ⟨line.toArray⟩] W (REnd base B W (s.step line)) := by
  obtain ⟨va, vb, vr, vd, h⟩ := h
  obtain ⟨ln, fi, tx, rows, dg⟩ := s
  simp only at h hln hlh hfi ht hr hd
  have U1 := Lib.hid (fun W => uncomment_any line W (by omega))
  have hul := unc_le line
  obtain ⟨S2, hS2⟩ : ∃ S2, St.step ⟨ln, fi, tx, rows, dg⟩ line = S2 := ⟨_, rfl⟩
  have HS := Lib.hid hS2
  unfold St.step at hS2
  rw [HS.out]
  obtain ⟨u, c, huc⟩ : ∃ u c, unc line = (u, c) := ⟨_, _, rfl⟩
  rw [huc] at U1 hul hS2
  simp only at hul hS2
  have HS2 := Lib.hid hS2
  have x0 : W.cell? ⟨B, 0, none⟩ = some (.int .i64 ln) := h.blk.cell 0
  have g0 : W.frozen? ⟨B, 0, none⟩ = false := h.blk.frozen (by simp)
  have h1 := h.setNum 0 (.int .i64 (ln + 1)) rfl
  have H1 : Hid (RS base B (W.setCell ⟨B, 0, none⟩ (.int .i64 (ln + 1))) (ln + 1) fi va vb vr vd tx rows dg ∧ Fr base B W (W.setCell ⟨B, 0, none⟩ (.int .i64 (ln + 1)))) := Lib.hid ⟨h1, Fr.set _ _ _⟩
  have y0 : (W.setCell ⟨B, 0, none⟩ (.int .i64 (ln + 1))).cell? ⟨B, 0, none⟩ = some (.int .i64 (ln + 1)) := h1.blk.cell 0
  have y1 : (W.setCell ⟨B, 0, none⟩ (.int .i64 (ln + 1))).cell? ⟨B, 1, none⟩ = some (.int .i64 fi) := h1.blk.cell 1
  have y1' : W.cell? ⟨B, 1, none⟩ = some (.int .i64 fi) := h.blk.cell 1
  have j1 : (W.setCell ⟨B, 0, none⟩ (.int .i64 (ln + 1))).frozen? ⟨B, 1, none⟩ = false := h1.blk.frozen (by simp)
  have j1' : W.frozen? ⟨B, 1, none⟩ = false := h.blk.frozen (by simp)
  have hsz := arr_size u
  have HM := Lib.hid hM
  have EQ := Lib.hid (fun W => eqlS_run u [] W)
  clear HS hS2 huc h h1 hM
  by_cases hf : fi = 0
  · subst hf
    have eS := HS2.out
    rw [if_pos rfl] at eS
    by_cases hc : c = true ∧ u = []
    · obtain ⟨rfl, rfl⟩ := hc
      rw [if_pos ⟨rfl, rfl⟩] at eS
      subst eS
      have E2 : ∀ W, (eqlS (.string ⟨#[]⟩) (.string ⟨#[]⟩)).run Tryd.prog W = .ok (.bool true) W := eqlS_run [] []
      clear EQ HS2
      go_enter Tryd.func42, Tryd.ntmps42
      go_wp2_with (go_at_call 56; refine (U1.out _).mono ?_; rintro e w' ⟨rfl, rfl⟩)
      go_end0
      exact REnd.mk rfl H1.out.1 H1.out.2
    · rw [if_neg hc] at eS
      have HE := Lib.hid eS
      have E2 : Hid (∀ W, (eqlS (.string ⟨u.toArray⟩) (.string ⟨#[]⟩)).run Tryd.prog W = .ok (.bool (decide (u = []))) W) := Lib.hid EQ.out
      have h2 := H1.out.1.setNum 1 (.int .i64 (ln + 1)) rfl
      have H2 : Hid (RS base B ((W.setCell ⟨B, 0, none⟩ (.int .i64 (ln + 1))).setCell ⟨B, 1, none⟩ (.int .i64 (ln + 1))) (ln + 1) (ln + 1) va vb vr vd tx rows dg ∧ Fr base B W ((W.setCell ⟨B, 0, none⟩ (.int .i64 (ln + 1))).setCell ⟨B, 1, none⟩ (.int .i64 (ln + 1)))) := Lib.hid ⟨h2, H1.out.2.trans (Fr.set _ _ _)⟩
      have hq : ln + 1 ≠ 0 := by omega
      have hcu : c = false ∨ (c = true ∧ decide (u = []) = false) := by
        cases c
        · exact .inl rfl
        · exact .inr ⟨rfl, decide_eq_false (fun e => hc ⟨rfl, e⟩)⟩
      have HCU := Lib.hid hcu
      clear EQ HS2 eS hc hcu h2
      obtain ⟨E3, hE3⟩ : ∃ E3, decide (u = []) = E3 := ⟨_, rfl⟩
      have HCU2 : Hid (c = false ∨ (c = true ∧ E3 = false)) := Lib.hid (by rw [← hE3]; exact HCU.out)
      have E4 : ∀ W, (eqlS (.string ⟨u.toArray⟩) (.string ⟨#[]⟩)).run Tryd.prog W = .ok (.bool E3) W := by rw [← hE3]; exact E2.out
      clear HCU E2 hE3
      rcases HCU2.out with rfl | ⟨rfl, rfl⟩
      all_goals
        have SL := Lib.hid (fun W => slashed_any u W (by omega))
        cases hsl : sl u
        · rw [hsl] at SL
          have eS := HE.out
          unfold St.more at eS
          rw [if_neg (by rw [hsl]; decide)] at eS
          have HEE := Lib.hid eS
          have WR := Lib.hid (rwrite_any _ H2.out.1 u (by omega))
          clear eS hsl HE
          go_enter Tryd.func42, Tryd.ntmps42
          go_wp2_with (first
            | (go_at_call 56; refine (U1.out _).mono ?_; rintro e w' ⟨rfl, rfl⟩)
            | (go_at_call 46; refine (SL.out _).mono ?_; rintro e w' ⟨rfl, rfl⟩))
          refine WR.out.mono ?_
          rintro e W3 ⟨va3, vb3, rfl, r3, q3⟩
          have q4 := H2.out.2.trans q3
          have EN := Lib.hid (end_any W3 r3 (fun W' h => HM.out _ (q4.trans h)) hq (by simp only [List.length_append]; omega) hr hd)
          have Q4 := Lib.hid q4
          clear WR r3 q3 q4 H2 H1 HM
          go_wp2_with fail
          refine EN.out.mono ?_
          rintro e W4 ⟨va4, vb4, vr4, vd4, rfl, r4, q5⟩
          have H4 := Lib.hid (And.intro r4 (Q4.out.trans q5))
          clear r4 q5 EN Q4
          go_wp2_with fail
          go_end0
          rw [← HEE.out]
          exact REnd.mk rfl H4.out.1 H4.out.2
        · rw [hsl] at SL
          have eS := HE.out
          unfold St.more at eS
          rw [if_pos hsl] at eS
          have HEE := Lib.hid eS
          have hul1 := sl_pos hsl
          have k1 : ∀ W, (Instr.slice 9 (.string ⟨u.toArray⟩) none (some (.int .i64 ((u.length : Int) - 1))) none).run Tryd.prog W = .ok (.string ⟨(u.take (u.length - 1)).toArray⟩) W := by
            have h := str_to u (u.length - 1) (by omega)
            have c1 : ((u.length - 1 : Nat) : Int) = (u.length : Int) - 1 := by omega
            rw [c1] at h
            exact h
          have hw : IntKind.i64.wrap ((u.length : Int) - 1) = (u.length : Int) - 1 := wrap_i64 (by omega) (by omega)
          have WR := Lib.hid (rwrite_any _ (H2.out.1.keep (Below.refl _ _).drew) (u.take (u.length - 1)) (by rw [List.length_take]; omega))
          clear eS hsl HE
          go_enter Tryd.func42, Tryd.ntmps42
          go_wp2_with (first
            | (go_at_call 56; refine (U1.out _).mono ?_; rintro e w' ⟨rfl, rfl⟩)
            | (go_at_call 46; refine (SL.out _).mono ?_; rintro e w' ⟨rfl, rfl⟩))
          go_region_with ((go_at_call 35; (with_reducible refine WR.out.mono ?_); rintro e W3 ⟨va3, vb3, rfl, r3, q3⟩; have R3 := Lib.hid r3; have Q3 := Lib.hid q3; clear r3 q3))
          all_goals
            go_wp2_with fail
            go_end0
            rw [← HEE.out]
            exact REnd.mk rfl R3.out ((H2.out.2.trans (Fr.drew _)).trans Q3.out)
  · have eS := HS2.out
    rw [if_neg hf] at eS
    have HE := Lib.hid eS
    have hf0 : (fi == 0) = false := by simpa using hf
    have hq : fi ≠ 0 := hf
    have H2 := H1
    clear EQ HS2 eS
    have SL := Lib.hid (fun W => slashed_any u W (by omega))
    cases hsl : sl u
    · rw [hsl] at SL
      have eS := HE.out
      unfold St.more at eS
      rw [if_neg (by rw [hsl]; decide)] at eS
      have HEE := Lib.hid eS
      have WR := Lib.hid (rwrite_any _ H2.out.1 u (by omega))
      clear eS hsl HE
      go_enter Tryd.func42, Tryd.ntmps42
      go_wp2_with (first
        | (go_at_call 56; refine (U1.out _).mono ?_; rintro e w' ⟨rfl, rfl⟩)
        | (go_at_call 46; refine (SL.out _).mono ?_; rintro e w' ⟨rfl, rfl⟩))
      refine WR.out.mono ?_
      rintro e W3 ⟨va3, vb3, rfl, r3, q3⟩
      have q4 := H2.out.2.trans q3
      have EN := Lib.hid (end_any W3 r3 (fun W' h => HM.out _ (q4.trans h)) hq (by simp only [List.length_append]; omega) hr hd)
      have Q4 := Lib.hid q4
      clear WR r3 q3 q4 H2 H1 HM
      go_wp2_with fail
      refine EN.out.mono ?_
      rintro e W4 ⟨va4, vb4, vr4, vd4, rfl, r4, q5⟩
      have H4 := Lib.hid (And.intro r4 (Q4.out.trans q5))
      clear r4 q5 EN Q4
      go_wp2_with fail
      go_end0
      rw [← HEE.out]
      exact REnd.mk rfl H4.out.1 H4.out.2
    · rw [hsl] at SL
      have eS := HE.out
      unfold St.more at eS
      rw [if_pos hsl] at eS
      have HEE := Lib.hid eS
      have hul1 := sl_pos hsl
      have k1 : ∀ W, (Instr.slice 9 (.string ⟨u.toArray⟩) none (some (.int .i64 ((u.length : Int) - 1))) none).run Tryd.prog W = .ok (.string ⟨(u.take (u.length - 1)).toArray⟩) W := by
        have h := str_to u (u.length - 1) (by omega)
        have c1 : ((u.length - 1 : Nat) : Int) = (u.length : Int) - 1 := by omega
        rw [c1] at h
        exact h
      have hw : IntKind.i64.wrap ((u.length : Int) - 1) = (u.length : Int) - 1 := wrap_i64 (by omega) (by omega)
      have WR := Lib.hid (rwrite_any _ (H2.out.1.keep (Below.refl _ _).drew) (u.take (u.length - 1)) (by rw [List.length_take]; omega))
      clear eS hsl HE
      go_enter Tryd.func42, Tryd.ntmps42
      go_wp2_with (first
        | (go_at_call 56; refine (U1.out _).mono ?_; rintro e w' ⟨rfl, rfl⟩)
        | (go_at_call 46; refine (SL.out _).mono ?_; rintro e w' ⟨rfl, rfl⟩))
      go_region_with ((go_at_call 35; (with_reducible refine WR.out.mono ?_); rintro e W3 ⟨va3, vb3, rfl, r3, q3⟩; have R3 := Lib.hid r3; have Q3 := Lib.hid q3; clear r3 q3))
      all_goals
        go_wp2_with fail
        go_end0
        rw [← HEE.out]
        exact REnd.mk rfl R3.out ((H2.out.2.trans (Fr.drew _)).trans Q3.out)
end Go.Proofs.YteckiifnldcjbaaDoor
