/- A table's reader: the look. -/
import Derived.Test.YtaeplneiicobgaaDoorVc
set_option linter.unusedVariables false
set_option linter.unusedSimpArgs false
namespace Go.Proofs.YtaeplneiicobgaaDoor
open Go.RowKit
theorem FrR.fr0 {W0 : World} {B : Nat} (hB : W0.heap.size ≤ B) : Fr0 B (FrR W0) := fun A A' row h hg hr =>
  ⟨Nat.le_trans h.size hg.size, fun g o ho h1 h2 => (hg.block g (Array.getElem?_eq_some_iff.1 (h.same g o ho h1 h2)).1 (fun q => by
    have := (hr g q.symm).1
    have := (Array.getElem?_eq_some_iff.1 ho).1
    omega)).trans (h.same g o ho h1 h2), fun Q x h1 h2 => by
    obtain ⟨k1, cur, fz, k2⟩ := h.rw4 Q x h1 h2
    have k3 := SamT.others hg hr Q cur fz (Nat.zero_le _) k2
    exact ⟨(World.cell?_of_block (k3.trans k2.symm)).trans k1, cur, fz, k3⟩⟩
/-- What a look tells. -/
def RS.lk (line : Int) (s : RS) (x : Txt) : RS := { k := 1, cols := s.cols, rows := s.rows, bx := (lookB x).1, al := (lookB x).2.1, d := s.d ++ (if (lookB x).2.2 then [] else [(10, line, 0)]) }
def s00 : RS := ⟨0, [], [], false, false, []⟩
def lookS (line : Int) (L : List Txt) : RS := match L with
  | [] => s00
  | x :: _ => if endsB x 59 then s00.lk line x else s00
set_option maxRecDepth 100000 in
set_option maxHeartbeats 4000000 in
theorem rlook_any9 {w : World} {B : Nat} {line : Int} {a0 : Option Addr} {c0 : Nat} (L : List Txt) (W : World) (hRI : RI w B line (.slice a0 L.length c0) s00 W) (hS : Ss w (.slice a0 L.length c0) L) (hU : U8 w) (hL : ∀ x ∈ L, x.length ≤ 2000) (hl : L.length ≤ 40000) (h0 : 0 ≤ line) (h1 : line ≤ 100000) :
    Calls Tryd.prog 26 #[.pointer (some ⟨B, 0, none⟩)] W fun e W' => e = .returned (.tuple #[]) ∧ RI w B line (.slice a0 L.length c0) (lookS line L) W' ∧ FrR W W' := by
  obtain ⟨vr, vd, hbk, -, -⟩ := hRI.val
  have c1 : W.cell? ⟨B, 1, none⟩ = some (.slice a0 L.length c0) := hbk.cell 1
  rcases L with _ | ⟨x, r⟩
  · have HR := Lib.hid hRI
    clear hRI hbk hS
    simp only [List.length_nil] at c1 HR ⊢
    go_enter Tryd.func26, Tryd.ntmps26
    go_wp2_with fail
    refine bodyPost_ret (results_none rfl _ _ _) rfl ?_
    exact ⟨rfl, HR.out, FrR.refl _⟩
  · have hx := hL x (by simp)
    have hSW := hS.below hRI.bel
    obtain ⟨g, off, rfl, k0⟩ := Ss.at hSW (j := 0) (x := x) rfl
    rw [Nat.add_zero] at k0
    obtain ⟨n, hn⟩ : ∃ n, (x :: r).length = n := ⟨_, rfl⟩
    have hn1 : 0 < n := by rw [← hn]; simp
    have hn0 : ((n : Int) == 0) = false := by simp; omega
    have hn2 : (0 : Int) < (n : Int) := by omega
    have hlk : lookS line (x :: r) = if endsB x 59 then s00.lk line x else s00 := rfl
    rw [hlk]
    rw [hn] at hRI c1 ⊢
    have HS1 : Hid (∀ V, Calls Tryd.prog 40 #[.string ⟨x.toArray⟩, .string ⟨#[59]⟩] V fun e w' => e = .returned (.bool (endsB x 59)) ∧ V = w') := Lib.hid fun V => hassuf_any x 59 V (by omega)
    have HR := Lib.hid hRI
    cases he : endsB x 59
    · rw [he] at HS1
      rw [if_neg (by simp)]
      clear hRI hbk hS hSW hlk
      go_enter Tryd.func26, Tryd.ntmps26
      go_wp2_with (go_at_call 40; refine (HS1.out _).mono ?_; rintro e w1 ⟨rfl, rfl⟩)
      refine bodyPost_ret (results_none rfl _ _ _) rfl ?_
      exact ⟨rfl, HR.out, FrR.refl _⟩
    · rw [he] at HS1
      rw [if_pos rfl]
      have HK := Lib.hid (look_any x W (hU.below hRI.bel) (by omega))
      obtain ⟨⟨q1, q2, q3⟩, hq⟩ : ∃ q, lookB x = q := ⟨_, rfl⟩
      have hlke : s00.lk line x = { tellIf { s00 with k := 1 } (!q3) (10, line, 0) with bx := q1, al := q2 } := by
        unfold RS.lk tellIf
        rw [hq]
        cases q3 <;> rfl
      rw [hq] at HK
      rw [hlke]
      have A1 : Hid (∀ V s', RI w B line (.slice (some ⟨g, off, none⟩) n c0) s' V → s'.k = 1 → Calls Tryd.prog 42 #[.pointer (some ⟨B, 0, none⟩)] V fun e V' => e = .returned (.int .i64 line) ∧ RI w B line (.slice (some ⟨g, off, none⟩) n c0) s' V' ∧ FrR V V') := Lib.hid fun V s' hV hk' => by
        have h := at9_any V hV h0 h1 (by omega)
        have e : line + ((s'.k : Nat) : Int) - 1 = line := by rw [hk']; omega
        rw [e] at h
        exact h.mono fun e V' ⟨q1, q2⟩ => ⟨q1, hV.keep q2, FrR.below q2⟩
      have T1 : Hid (∀ V s' (k : Int), RI w B line (.slice (some ⟨g, off, none⟩) n c0) s' V → s'.d.length ≤ 500000 → Calls Tryd.prog 41 #[.pointer (some ⟨B, 0, none⟩), .int .i64 k, .int .i64 line] V fun e V' => e = .returned (.tuple #[]) ∧ RI w B line (.slice (some ⟨g, off, none⟩) n c0) { s' with d := s'.d ++ [(k, line, 0)] } V' ∧ FrR V V') := Lib.hid fun V s' k hV hd' => tell9_any V hV k line hd'
      have HC : Hid (∀ s' V, RI w B line (.slice (some ⟨g, off, none⟩) n c0) s' V → (V.cell? ⟨B, 2, none⟩ = some (.int .i64 (s'.k : Int)) ∧ V.frozen? ⟨B, 2, none⟩ = false) ∧ (V.cell? ⟨B, 5, none⟩ = some (.bool s'.bx) ∧ V.frozen? ⟨B, 5, none⟩ = false) ∧ (V.cell? ⟨B, 6, none⟩ = some (.bool s'.al) ∧ V.frozen? ⟨B, 6, none⟩ = false)) := Lib.hid fun s' V hV => by
        obtain ⟨vr, vd, h1, -, -⟩ := hV.val
        exact ⟨⟨h1.cell 2, h1.frozen (by simp)⟩, ⟨h1.cell 5, h1.frozen (by simp)⟩, ⟨h1.cell 6, h1.frozen (by simp)⟩⟩
      have HN : Hid (∀ V, RI w B line (.slice (some ⟨g, off, none⟩) n c0) s00 V → RI w B line (.slice (some ⟨g, off, none⟩) n c0) { s00 with k := 1 } (V.setCell ⟨B, 2, none⟩ (.int .i64 1)) ∧ FrR V (V.setCell ⟨B, 2, none⟩ (.int .i64 1))) := Lib.hid fun V hV => ⟨hV.put 2 _ rfl rfl (fun vr vd => rfl), hV.frp 2 _⟩
      have HB2 : Hid (∀ V s', RI w B line (.slice (some ⟨g, off, none⟩) n c0) s' V → RI w B line (.slice (some ⟨g, off, none⟩) n c0) { s' with bx := q1, al := q2 } ((V.setCell ⟨B, 5, none⟩ (.bool q1)).setCell ⟨B, 6, none⟩ (.bool q2)) ∧ FrR V ((V.setCell ⟨B, 5, none⟩ (.bool q1)).setCell ⟨B, 6, none⟩ (.bool q2))) := Lib.hid fun V s' hV => by
        have h5 : RI w B line (.slice (some ⟨g, off, none⟩) n c0) { s' with bx := q1 } (V.setCell ⟨B, 5, none⟩ (.bool q1)) := hV.put 5 _ rfl rfl (fun vr vd => rfl)
        exact ⟨h5.put 6 _ rfl rfl (fun vr vd => rfl), (hV.frp 5 _).trans (h5.frp 6 _)⟩
      clear hRI hbk hS hSW hlk hq hlke hU hL
      cases q3
      all_goals
        go_enter Tryd.func26, Tryd.ntmps26
        go_wp2_with (first
          | (go_at_call 40; refine (HS1.out _).mono ?_; rintro e w1 ⟨rfl, rfl⟩)
          | (go_at_call 7; refine HK.out.mono ?_; rintro e w1 ⟨rfl, b1⟩; have R1 := Lib.hid (HR.out.keep b1); have F1 := Lib.hid (FrR.below b1); obtain ⟨⟨p1, p2⟩, -, -⟩ := HC.out _ _ R1.out; replace p1 : w1.cell? ⟨B, 2, none⟩ = some (.int .i64 0) := p1; have R2 := Lib.hid (HN.out _ R1.out).1; have F2 := Lib.hid (F1.out.trans (HN.out _ R1.out).2); obtain ⟨-, ⟨p3, p4⟩, ⟨p5, p6⟩⟩ := HC.out _ _ R2.out; clear b1)
          | (go_at_call 42; (with_reducible refine (A1.out _ _ R2.out rfl).mono ?_); rintro e w3 ⟨rfl, r, f⟩; have R3 := Lib.hid r; have F3 := Lib.hid (F2.out.trans f); clear r f)
          | (go_at_call 41; (with_reducible refine (T1.out _ _ _ R3.out (by decide)).mono ?_); rintro e w4 ⟨rfl, r, f⟩; have R4 := Lib.hid r; have F4 := Lib.hid (F3.out.trans f); obtain ⟨-, ⟨p3', p4'⟩, ⟨p5', p6'⟩⟩ := HC.out _ _ R4.out; clear r f))
        go_end0
        first
          | exact ⟨rfl, (HB2.out _ _ R4.out).1, F4.out.trans (HB2.out _ _ R4.out).2⟩
          | exact ⟨rfl, (HB2.out _ _ R2.out).1, F2.out.trans (HB2.out _ _ R2.out).2⟩
end Go.Proofs.YtaeplneiicobgaaDoor
