/- stableCmpFunc of up to 41. -/
import Derived.Test.YtalopkplpbdgjaaDoorSd
namespace Go.Proofs.YtalopkplpbdgjaaDoor
open Go.RowKit

set_option maxRecDepth 100000 in
set_option maxHeartbeats 2000000 in
theorem stable_a (base g n cap : Nat) (w : World) (ds : List D) (h : Rw base g n cap w ds) (hn : n < 20) :
    Calls Tryd.prog 42 #[.slice (some ⟨g, 0, none⟩) n cap, .int .i64 n, .func (.func 34) #[] #[]] w fun e w' => e = .returned (.tuple #[]) ∧ ∃ es, Rw base g n cap w' es ∧ es.Perm ds ∧ So es 0 n ∧ Below base w w' := by
  have H := Lib.hid h
  have hdl := h.1
  have hB0 := Lib.hid (Below.refl base w)
  clear h
  go_enter Tryd.func42, Tryd.ntmps42
  go_wp2_with fail
  go_loopw [7, 8] (fun va vb wr => ∃ es, Rw base g n cap wr es ∧ es.Perm ds ∧ Below base w wr ∧ ((va = .int .i64 0 ∧ vb = .int .i64 20))) (fun _ vb _ => 100 - (intOf vb).toNat)
  case atStart => exact ⟨ds, H.out, List.Perm.refl _, hB0.out, rfl, rfl⟩
  case round =>
    obtain ⟨es, hr, hp, hbl, rfl, rfl⟩ := hrel
    have HR := Lib.hid hr
    have HP := Lib.hid hp
    have HB := Lib.hid hbl
    have hel : es.length = n := hr.1
    clear hr hp hbl
    have g1 : ¬ (20 : Int) ≤ (n : Int) := by omega
    have hC0 := insertion_any base g n cap 0 n wr es HR.out (by omega) (by omega) (by omega)
    rw [show ((0 : Nat) : Int) = 0 from rfl] at hC0
    have hC := Lib.hid hC0
    clear hC0
    go_wp2_with fail
    go_at_call 48
    with_reducible refine hC.out.mono ?_
    rintro _ w3 ⟨rfl, fs, r3, re3, so3, b3⟩
    have R3 := Lib.hid r3
    have P3 := Lib.hid (re3.perm.trans HP.out)
    have B3 := Lib.hid (HB.out.trans b3)
    have S3 := Lib.hid so3
    clear r3 re3 so3 b3
    have g2 : ¬ (20 : Int) < (n : Int) := by omega
    go_wp2_with fail
    obtain ⟨wq, hwq⟩ : ∃ wq : World, wq = w3 := ⟨w3, rfl⟩
    subst hwq
    go_loopw [6, 7, 8] (fun v6 v7 v8 wr => ∃ es, Rw base g n cap wr es ∧ es.Perm ds ∧ Below base w wr ∧ ((v6 = .int .i64 20 ∧ So es 0 n))) (fun v6 _ _ _ => 100 - (intOf v6).toNat)
    case atStart => exact ⟨fs, R3.out, P3.out, B3.out, rfl, S3.out⟩
    case round =>
      obtain ⟨gs, hr, hp, hbl, rfl, x1⟩ := hrel
      have R4 := Lib.hid hr
      have P4 := Lib.hid hp
      have B4 := Lib.hid hbl
      have hgl : gs.length = n := hr.1
      clear hr hp hbl
      go_wp2_with fail
      go_end0
      exact ⟨rfl, gs, R4.out, P4.out, x1, B4.out⟩

set_option maxRecDepth 100000 in
set_option maxHeartbeats 2000000 in
theorem stable_b (base g n cap : Nat) (w : World) (ds : List D) (h : Rw base g n cap w ds) (hn : 20 ≤ n) (hn2 : n < 40) :
    Calls Tryd.prog 42 #[.slice (some ⟨g, 0, none⟩) n cap, .int .i64 n, .func (.func 34) #[] #[]] w fun e w' => e = .returned (.tuple #[]) ∧ ∃ es, Rw base g n cap w' es ∧ es.Perm ds ∧ So es 0 n ∧ Below base w w' := by
  have H := Lib.hid h
  have hdl := h.1
  have hB0 := Lib.hid (Below.refl base w)
  clear h
  go_enter Tryd.func42, Tryd.ntmps42
  go_wp2_with fail
  go_loopw [7, 8] (fun va vb wr => ∃ es, Rw base g n cap wr es ∧ es.Perm ds ∧ Below base w wr ∧ ((va = .int .i64 0 ∧ vb = .int .i64 20) ∨ (va = .int .i64 20 ∧ vb = .int .i64 40 ∧ So es 0 20))) (fun _ vb _ => 100 - (intOf vb).toNat)
  case atStart => exact ⟨ds, H.out, List.Perm.refl _, hB0.out, .inl ⟨rfl, rfl⟩⟩
  case round =>
    obtain ⟨es, hr, hp, hbl, hk⟩ := hrel
    have HR := Lib.hid hr
    have HP := Lib.hid hp
    have HB := Lib.hid hbl
    have hel : es.length = n := hr.1
    clear hr hp hbl
    rcases hk with ⟨rfl, rfl⟩ | ⟨rfl, rfl, s1⟩
    · have g1 : (20 : Int) ≤ (n : Int) := by omega
      have hC0 := insertion_any base g n cap 0 20 wr es HR.out (by omega) (by omega) (by omega)
      rw [show ((0 : Nat) : Int) = 0 from rfl, show ((20 : Nat) : Int) = 20 from rfl] at hC0
      have hC := Lib.hid hC0
      clear hC0
      go_wp2_with fail
      go_at_call 48
      with_reducible refine hC.out.mono ?_
      rintro _ w3 ⟨rfl, fs, r3, re3, so3, b3⟩
      have R3 := Lib.hid r3
      have P3 := Lib.hid (re3.perm.trans HP.out)
      have B3 := Lib.hid (HB.out.trans b3)
      have S3 := Lib.hid so3
      clear r3 re3 so3 b3
      go_wp2_with fail
      go_roundw
      case rel => exact ⟨fs, R3.out, P3.out, B3.out, .inr ⟨by go_num, by go_num, S3.out⟩⟩
      case measure => simp [intOf]
    · have g1 : ¬ (40 : Int) ≤ (n : Int) := by omega
      have hC0 := insertion_any base g n cap 20 n wr es HR.out (by omega) (by omega) (by omega)
      rw [show ((20 : Nat) : Int) = 20 from rfl] at hC0
      have hC := Lib.hid hC0
      clear hC0
      go_wp2_with fail
      go_at_call 48
      with_reducible refine hC.out.mono ?_
      rintro _ w3 ⟨rfl, fs, r3, re3, so3, b3⟩
      have t1 := s1.same re3 (.inl (by omega))
      have R3 := Lib.hid r3
      have P3 := Lib.hid (re3.perm.trans HP.out)
      have B3 := Lib.hid (HB.out.trans b3)
      have S3 := Lib.hid so3
      clear r3 re3 so3 b3
      go_wp2_with fail
      obtain ⟨wq, hwq⟩ : ∃ wq : World, wq = w3 := ⟨w3, rfl⟩
      subst hwq
      go_loopw [6, 7, 8] (fun v6 v7 v8 wr => ∃ es, Rw base g n cap wr es ∧ es.Perm ds ∧ Below base w wr ∧ ((v6 = .int .i64 20 ∧ So es 0 20 ∧ So es 20 n) ∨ (v6 = .int .i64 40 ∧ So es 0 n))) (fun v6 _ _ _ => 100 - (intOf v6).toNat)
      case atStart => exact ⟨fs, R3.out, P3.out, B3.out, .inl ⟨rfl, t1, S3.out⟩⟩
      case round =>
        obtain ⟨gs, hr, hp, hbl, hk⟩ := hrel
        have R4 := Lib.hid hr
        have P4 := Lib.hid hp
        have B4 := Lib.hid hbl
        have hgl : gs.length = n := hr.1
        clear hr hp hbl
        rcases hk with ⟨rfl, x1, x2⟩ | ⟨rfl, x1⟩
        · by_cases hq : 20 < n
          · have g2 : (20 : Int) < (n : Int) := by omega
            have g3 : ¬ (40 : Int) ≤ (n : Int) := by omega
            go_wp2_with fail
            obtain ⟨wz, hwz⟩ : ∃ wz : World, wz = wr := ⟨wr, rfl⟩
            subst hwz
            go_loopw [7, 8] (fun va vb wx => ∃ hs, Rw base g n cap wx hs ∧ hs.Perm ds ∧ Below base w wx ∧ ((va = .int .i64 0 ∧ vb = .int .i64 40 ∧ So hs 0 20 ∧ So hs 20 n))) (fun _ vb _ => 100 - (intOf vb).toNat)
            case atStart => exact ⟨gs, R4.out, P4.out, B4.out, rfl, rfl, x1, x2⟩
            case round =>
              obtain ⟨hs, hr, hp, hbl, rfl, rfl, y1, y2⟩ := hrel
              have R5 := Lib.hid hr
              have P5 := Lib.hid hp
              have B5 := Lib.hid hbl
              have hhl : hs.length = n := hr.1
              clear hr hp hbl
              have hC0 := sym_any base g n cap (by omega) 1000 0 20 n _ hs (by omega) R5.out (by omega) (by omega) (by omega) y1 y2
              rw [show ((0 : Nat) : Int) = 0 from rfl, show ((20 : Nat) : Int) = 20 from rfl] at hC0
              have hC4 := Lib.hid hC0
              clear hC0
              go_wp2_with fail
              go_at_call 49
              with_reducible refine hC4.out.mono ?_
              rintro _ w6 ⟨rfl, ks, r6, re6, so6, b6⟩
              have R6 := Lib.hid r6
              have P6 := Lib.hid (re6.perm.trans P5.out)
              have B6 := Lib.hid (B5.out.trans b6)
              have S6 := Lib.hid so6
              clear r6 re6 so6 b6
              go_wp2_with fail
              go_roundw
              case rel => exact ⟨ks, R6.out, P6.out, B6.out, .inr ⟨by go_num, S6.out⟩⟩
              case measure => simp [intOf]
          · have g2 : ¬ (20 : Int) < (n : Int) := by omega
            have y1 := Lib.hid (show So gs 0 n from by rw [show n = 20 by omega]; exact x1)
            go_wp2_with fail
            go_end0
            exact ⟨rfl, gs, R4.out, P4.out, y1.out, B4.out⟩
        · have g2 : ¬ (40 : Int) < (n : Int) := by omega
          go_wp2_with fail
          go_end0
          exact ⟨rfl, gs, R4.out, P4.out, x1, B4.out⟩

set_option maxRecDepth 100000 in
set_option maxHeartbeats 2000000 in
theorem stable_c (base g n cap : Nat) (w : World) (ds : List D) (h : Rw base g n cap w ds) (hn : 40 ≤ n) (hn2 : n ≤ 41) :
    Calls Tryd.prog 42 #[.slice (some ⟨g, 0, none⟩) n cap, .int .i64 n, .func (.func 34) #[] #[]] w fun e w' => e = .returned (.tuple #[]) ∧ ∃ es, Rw base g n cap w' es ∧ es.Perm ds ∧ So es 0 n ∧ Below base w w' := by
  have H := Lib.hid h
  have hdl := h.1
  have hB0 := Lib.hid (Below.refl base w)
  clear h
  go_enter Tryd.func42, Tryd.ntmps42
  go_wp2_with fail
  go_loopw [7, 8] (fun va vb wr => ∃ es, Rw base g n cap wr es ∧ es.Perm ds ∧ Below base w wr ∧ ((va = .int .i64 0 ∧ vb = .int .i64 20) ∨ (va = .int .i64 20 ∧ vb = .int .i64 40 ∧ So es 0 20) ∨ (va = .int .i64 40 ∧ vb = .int .i64 60 ∧ So es 0 20 ∧ So es 20 40))) (fun _ vb _ => 100 - (intOf vb).toNat)
  case atStart => exact ⟨ds, H.out, List.Perm.refl _, hB0.out, .inl ⟨rfl, rfl⟩⟩
  case round =>
    obtain ⟨es, hr, hp, hbl, hk⟩ := hrel
    have HR := Lib.hid hr
    have HP := Lib.hid hp
    have HB := Lib.hid hbl
    have hel : es.length = n := hr.1
    clear hr hp hbl
    rcases hk with ⟨rfl, rfl⟩ | ⟨rfl, rfl, s1⟩ | ⟨rfl, rfl, s1, s2⟩
    · have g1 : (20 : Int) ≤ (n : Int) := by omega
      have hC0 := insertion_any base g n cap 0 20 wr es HR.out (by omega) (by omega) (by omega)
      rw [show ((0 : Nat) : Int) = 0 from rfl, show ((20 : Nat) : Int) = 20 from rfl] at hC0
      have hC := Lib.hid hC0
      clear hC0
      go_wp2_with fail
      go_at_call 48
      with_reducible refine hC.out.mono ?_
      rintro _ w3 ⟨rfl, fs, r3, re3, so3, b3⟩
      have R3 := Lib.hid r3
      have P3 := Lib.hid (re3.perm.trans HP.out)
      have B3 := Lib.hid (HB.out.trans b3)
      have S3 := Lib.hid so3
      clear r3 re3 so3 b3
      go_wp2_with fail
      go_roundw
      case rel => exact ⟨fs, R3.out, P3.out, B3.out, .inr (.inl ⟨by go_num, by go_num, S3.out⟩)⟩
      case measure => simp [intOf]
    · have g1 : (40 : Int) ≤ (n : Int) := by omega
      have hC0 := insertion_any base g n cap 20 40 wr es HR.out (by omega) (by omega) (by omega)
      rw [show ((20 : Nat) : Int) = 20 from rfl, show ((40 : Nat) : Int) = 40 from rfl] at hC0
      have hC := Lib.hid hC0
      clear hC0
      go_wp2_with fail
      go_at_call 48
      with_reducible refine hC.out.mono ?_
      rintro _ w3 ⟨rfl, fs, r3, re3, so3, b3⟩
      have t1 := s1.same re3 (.inl (Nat.le_refl _))
      have R3 := Lib.hid r3
      have P3 := Lib.hid (re3.perm.trans HP.out)
      have B3 := Lib.hid (HB.out.trans b3)
      have S3 := Lib.hid so3
      clear r3 re3 so3 b3
      go_wp2_with fail
      go_roundw
      case rel => exact ⟨fs, R3.out, P3.out, B3.out, .inr (.inr ⟨by go_num, by go_num, t1, S3.out⟩)⟩
      case measure => simp [intOf]
    · have g1 : ¬ (60 : Int) ≤ (n : Int) := by omega
      have hC0 := insertion_any base g n cap 40 n wr es HR.out (by omega) (by omega) (by omega)
      rw [show ((40 : Nat) : Int) = 40 from rfl] at hC0
      have hC := Lib.hid hC0
      clear hC0
      go_wp2_with fail
      go_at_call 48
      with_reducible refine hC.out.mono ?_
      rintro _ w3 ⟨rfl, fs, r3, re3, so3, b3⟩
      have t1 := s1.same re3 (.inl (by omega))
      have t2 := s2.same re3 (.inl (by omega))
      have R3 := Lib.hid r3
      have P3 := Lib.hid (re3.perm.trans HP.out)
      have B3 := Lib.hid (HB.out.trans b3)
      have S3 := Lib.hid so3
      clear r3 re3 so3 b3
      go_wp2_with fail
      obtain ⟨wq, hwq⟩ : ∃ wq : World, wq = w3 := ⟨w3, rfl⟩
      subst hwq
      go_loopw [6, 7, 8] (fun v6 v7 v8 wr => ∃ es, Rw base g n cap wr es ∧ es.Perm ds ∧ Below base w wr ∧ ((v6 = .int .i64 20 ∧ So es 0 20 ∧ So es 20 40 ∧ So es 40 n) ∨ (v6 = .int .i64 40 ∧ So es 0 40 ∧ So es 40 n) ∨ (v6 = .int .i64 80 ∧ So es 0 n))) (fun v6 _ _ _ => 100 - (intOf v6).toNat)
      case atStart => exact ⟨fs, R3.out, P3.out, B3.out, .inl ⟨rfl, t1, t2, S3.out⟩⟩
      case round =>
        obtain ⟨gs, hr, hp, hbl, hk⟩ := hrel
        have R4 := Lib.hid hr
        have P4 := Lib.hid hp
        have B4 := Lib.hid hbl
        have hgl : gs.length = n := hr.1
        clear hr hp hbl
        rcases hk with ⟨rfl, x1, x2, x3⟩ | ⟨rfl, x1, x2⟩ | ⟨rfl, x1⟩
        · have g2 : (20 : Int) < (n : Int) := by omega
          have g3 : (40 : Int) ≤ (n : Int) := by omega
          have g4 : ¬ (80 : Int) ≤ (n : Int) := by omega
          have g5 : ¬ (60 : Int) < (n : Int) := by omega
          go_wp2_with fail
          obtain ⟨wz, hwz⟩ : ∃ wz : World, wz = wr := ⟨wr, rfl⟩
          subst hwz
          go_loopw [7, 8] (fun va vb wx => ∃ hs, Rw base g n cap wx hs ∧ hs.Perm ds ∧ Below base w wx ∧ ((va = .int .i64 0 ∧ vb = .int .i64 40 ∧ So hs 0 20 ∧ So hs 20 40 ∧ So hs 40 n) ∨ (va = .int .i64 40 ∧ vb = .int .i64 80 ∧ So hs 0 40 ∧ So hs 40 n))) (fun _ vb _ => 100 - (intOf vb).toNat)
          case atStart => exact ⟨gs, R4.out, P4.out, B4.out, .inl ⟨rfl, rfl, x1, x2, x3⟩⟩
          case round =>
            obtain ⟨hs, hr, hp, hbl, hk2⟩ := hrel
            have R5 := Lib.hid hr
            have P5 := Lib.hid hp
            have B5 := Lib.hid hbl
            have hhl : hs.length = n := hr.1
            clear hr hp hbl
            rcases hk2 with ⟨rfl, rfl, y1, y2, y3⟩ | ⟨rfl, rfl, y1, y2⟩
            · skip
              have hC0 := sym_any base g n cap (by omega) 1000 0 20 40 _ hs (by omega) R5.out (by omega) (by omega) (by omega) y1 y2
              rw [show ((0 : Nat) : Int) = 0 from rfl, show ((20 : Nat) : Int) = 20 from rfl, show ((40 : Nat) : Int) = 40 from rfl] at hC0
              have hC4 := Lib.hid hC0
              clear hC0
              go_wp2_with fail
              go_at_call 49
              with_reducible refine hC4.out.mono ?_
              rintro _ w6 ⟨rfl, ks, r6, re6, so6, b6⟩
              have R6 := Lib.hid r6
              have P6 := Lib.hid (re6.perm.trans P5.out)
              have B6 := Lib.hid (B5.out.trans b6)
              have S6 := Lib.hid so6
              have y4 := y3.same re6 (.inr (by omega))
              clear r6 re6 so6 b6
              go_wp2_with fail
              go_roundw
              case rel => exact ⟨ks, R6.out, P6.out, B6.out, .inr ⟨by go_num, by go_num, S6.out, y4⟩⟩
              case measure => simp [intOf]
            · go_wp2_with fail
              go_roundw
              case rel => exact ⟨hs, R5.out, P5.out, B5.out, .inr (.inl ⟨by go_num, y1, y2⟩)⟩
              case measure => simp [intOf]
        · by_cases hq : 40 < n
          · have g2 : (40 : Int) < (n : Int) := by omega
            have g4 : ¬ (80 : Int) ≤ (n : Int) := by omega
            go_wp2_with fail
            obtain ⟨wz, hwz⟩ : ∃ wz : World, wz = wr := ⟨wr, rfl⟩
            subst hwz
            go_loopw [7, 8] (fun va vb wx => ∃ hs, Rw base g n cap wx hs ∧ hs.Perm ds ∧ Below base w wx ∧ ((va = .int .i64 0 ∧ vb = .int .i64 80 ∧ So hs 0 40 ∧ So hs 40 n))) (fun _ vb _ => 100 - (intOf vb).toNat)
            case atStart => exact ⟨gs, R4.out, P4.out, B4.out, rfl, rfl, x1, x2⟩
            case round =>
              obtain ⟨hs, hr, hp, hbl, rfl, rfl, y1, y2⟩ := hrel
              have R5 := Lib.hid hr
              have P5 := Lib.hid hp
              have B5 := Lib.hid hbl
              have hhl : hs.length = n := hr.1
              clear hr hp hbl
              have hC0 := sym_any base g n cap (by omega) 1000 0 40 n _ hs (by omega) R5.out (by omega) (by omega) (by omega) y1 y2
              rw [show ((0 : Nat) : Int) = 0 from rfl, show ((40 : Nat) : Int) = 40 from rfl] at hC0
              have hC4 := Lib.hid hC0
              clear hC0
              go_wp2_with fail
              go_at_call 49
              with_reducible refine hC4.out.mono ?_
              rintro _ w6 ⟨rfl, ks, r6, re6, so6, b6⟩
              have R6 := Lib.hid r6
              have P6 := Lib.hid (re6.perm.trans P5.out)
              have B6 := Lib.hid (B5.out.trans b6)
              have S6 := Lib.hid so6
              clear r6 re6 so6 b6
              go_wp2_with fail
              go_roundw
              case rel => exact ⟨ks, R6.out, P6.out, B6.out, .inr (.inr ⟨by go_num, S6.out⟩)⟩
              case measure => simp [intOf]
          · have g2 : ¬ (40 : Int) < (n : Int) := by omega
            have y1 := Lib.hid (show So gs 0 n from by rw [show n = 40 by omega]; exact x1)
            go_wp2_with fail
            go_end0
            exact ⟨rfl, gs, R4.out, P4.out, y1.out, B4.out⟩
        · have g2 : ¬ (80 : Int) < (n : Int) := by omega
          go_wp2_with fail
          go_end0
          exact ⟨rfl, gs, R4.out, P4.out, x1, B4.out⟩

theorem stable_any (base g n cap : Nat) (w : World) (ds : List D) (h : Rw base g n cap w ds) (hn : n ≤ 41) :
    Calls Tryd.prog 42 #[.slice (some ⟨g, 0, none⟩) n cap, .int .i64 n, .func (.func 34) #[] #[]] w fun e w' => e = .returned (.tuple #[]) ∧ ∃ es, Rw base g n cap w' es ∧ es.Perm ds ∧ So es 0 n ∧ Below base w w' := by
  by_cases h1 : n < 20
  · exact stable_a base g n cap w ds h h1
  · by_cases h2 : n < 40
    · exact stable_b base g n cap w ds h (by omega) h2
    · exact stable_c base g n cap w ds h (by omega) hn

end Go.Proofs.YtalopkplpbdgjaaDoor
