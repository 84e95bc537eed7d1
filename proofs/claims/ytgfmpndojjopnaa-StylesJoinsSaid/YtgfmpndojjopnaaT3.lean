/- StylesJoins: the walk. -/
import Derived.Test.YtgfmpndojjopnaaS6
namespace Go.Proofs.Ytgfmpndojjopnaa
open Go.RowKit

theorem Below.chain3 {a b c : World} (h1 : Below a.heap.size a b) (h2 : Below b.heap.size b c) : Below a.heap.size a c := h1.trans (h2.mono h1.size)
set_option maxRecDepth 100000 in
set_option maxHeartbeats 4000000 in
theorem joins_any (a b c : List Gly) (va vb vc : Value) (w : World) (ha : Gs w va a) (hb : Gs w vb b) (hc : Gs w vc c) (ma : a.length ≤ 1000000000000000) (mb : b.length ≤ 1000000000000000) (mc : c.length ≤ 1000000000000000) :
    Calls Try.prog 5 #[va, vb, vc] w fun e W' => e = .returned (.bool true) ∧ Below w.heap.size w W' := by
  have HA := Lib.hid ha
  have HB := Lib.hid hb
  have HC := Lib.hid hc
  obtain ⟨aa, ca, rfl⟩ := ha.len
  obtain ⟨ab, cb, rfl⟩ := hb.len
  obtain ⟨ac, cc, rfl⟩ := hc.len
  clear ha hb hc
  have za : (a.length : Int) ≤ 1000000000000000 := by omega
  have zb : (b.length : Int) ≤ 1000000000000000 := by omega
  have zc : (c.length : Int) ≤ 1000000000000000 := by omega
  have ya : (0 : Int) ≤ (a.length : Int) := by omega
  have yb : (0 : Int) ≤ (b.length : Int) := by omega
  have yc : (0 : Int) ≤ (c.length : Int) := by omega
  by_cases h1 : 500 < a.length + b.length + c.length
  · have hz : (500 : Int) < (a.length : Int) + (b.length : Int) + (c.length : Int) := by omega
    have HK := Lib.hid (known_any w)
    go_enter Try.func5, Try.ntmps5
    go_wp2_with fail
    refine HK.out.mono ?_
    rintro e w1 ⟨rfl, b1⟩
    go_wp2_with fail
    go_ret
    exact ⟨rfl, b1⟩
  · have hz : ¬ (500 : Int) < (a.length : Int) + (b.length : Int) + (c.length : Int) := by omega
    have hlen := jn_len a b
    have hlbc := jn_len b c
    have HJ1 := Lib.hid (sjoin_any a b _ _ w HA.out HB.out (by omega))
    obtain ⟨X, hX⟩ : ∃ X, jn a b = X := ⟨_, rfl⟩
    obtain ⟨Y, hY⟩ : ∃ Y, jn b c = Y := ⟨_, rfl⟩
    have hXl : X.length ≤ 1000 := by rw [← hX, hlen]; split <;> omega
    have hYl : Y.length ≤ 1000 := by rw [← hY, hlbc]; split <;> omega
    have hZ : jn a Y = jn X c := by rw [← hX, ← hY, jn_assoc]
    have hZl : (jn X c).length ≤ 3000 := by rw [jn_len]; split <;> omega
    rw [hX] at HJ1 hlen
    have HZ := Lib.hid hZ
    have HJ2 := Lib.hid (fun v W (h : Gs W v X) (h2 : Gs W (.slice ac c.length cc) c) => sjoin_any X c v _ W h h2 (by omega))
    have HJ3 := Lib.hid (fun W (h : Gs W (.slice ab b.length cb) b) (h2 : Gs W (.slice ac c.length cc) c) => sjoin_any b c _ _ W h h2 (by omega))
    rw [hY] at HJ3
    have HJ4 := Lib.hid (fun v W (h : Gs W (.slice aa a.length ca) a) (h2 : Gs W v Y) => sjoin_any a Y _ v W h h2 (by omega))
    rw [hZ] at HJ4
    obtain ⟨Z, hZe⟩ : ∃ Z, jn X c = Z := ⟨_, rfl⟩
    rw [hZe] at HJ2 HJ4 hZl
    have HJ5 := Lib.hid (fun W (h : Gs W (.slice aa a.length ca) a) => sjoin_any [] a (.slice none 0 0) _ W (Fs.nil W) h (by simp; omega))
    rw [jn_nil] at HJ5
    have HJ6 := Lib.hid (fun W (h : Gs W (.slice aa a.length ca) a) => sjoin_any a [] _ (.slice none 0 0) W h (Fs.nil W) (by simp; omega))
    rw [jn_nil'] at HJ6
    have HS1 := Lib.hid (fun v u W (h : Gs W v Z) (h2 : Gs W u Z) => rsameg_any Z Z v u W h h2 (by omega) (by omega))
    rw [decide_eq_true (rfl : Z = Z)] at HS1
    have HS2 := Lib.hid (fun v u W (h : Gs W v a) (h2 : Gs W u a) => rsameg_any a a v u W h h2 (by omega) (by omega))
    rw [decide_eq_true (rfl : a = a)] at HS2
    obtain ⟨N, hN⟩ : ∃ N, X.length = N := ⟨_, rfl⟩
    rw [hN] at hlen
    have HN := Lib.hid hN
    have hcase : (a.length = 0 ∧ N = a.length + b.length) ∨ (0 < a.length ∧ b.length = 0 ∧ N = a.length + b.length) ∨ (0 < a.length ∧ 0 < b.length ∧ N = a.length + b.length + 1) := by
      rcases a with _ | ⟨x, a⟩
      · exact .inl ⟨rfl, by simpa using hlen⟩
      · rcases b with _ | ⟨y, b⟩
        · exact .inr (.inl ⟨by simp, rfl, by simpa using hlen⟩)
        · exact .inr (.inr ⟨by simp, by simp, by simpa using hlen⟩)
    clear hlen hlbc hX hY hXl hYl hZ hZl hZe hN h1
    go_enter Try.func5, Try.ntmps5
    go_wp2_with fail
    refine HJ1.out.mono ?_
    rintro e w1 ⟨x, rfl, o1, b1⟩
    obtain ⟨xa, xc, hx⟩ := (FOwn.sl gcell_len o1).len
    rw [HN.out] at hx
    subst hx
    have G1 := Lib.hid (FOwn.sl gcell_len o1)
    have B1 := Lib.hid b1
    have J2 := Lib.hid (HJ2.out _ w1 G1.out (Fs.below HC.out b1))
    clear o1 b1 HJ1 HJ2
    rcases hcase with ⟨e1, e2⟩ | ⟨e1, e3, e2⟩ | ⟨e1, e3, e2⟩
    · have t1 : ¬ (0 : Int) < (a.length : Int) := by omega
      have t3 : (N : Int) = (a.length : Int) + (b.length : Int) := by omega
      clear e1 e2
      go_wp2_with fail
      refine J2.out.mono ?_
      rintro e w2 ⟨x2, rfl, o2, b2⟩
      obtain ⟨xa2, xc2, rfl⟩ := (FOwn.sl gcell_len o2).len
      have G2 := Lib.hid (FOwn.sl gcell_len o2)
      have B2 := Lib.hid (Below.chain3 B1.out b2)
      have J3 := Lib.hid (HJ3.out w2 (Fs.below HB.out B2.out) (Fs.below HC.out B2.out))
      clear o2 b2 J2
      go_wp2_with fail
      refine J3.out.mono ?_
      rintro e w3 ⟨x3, rfl, o3, b3⟩
      have B3 := Lib.hid (Below.chain3 B2.out b3)
      have J4 := Lib.hid (HJ4.out _ w3 (Fs.below HA.out B3.out) (FOwn.sl gcell_len o3))
      obtain ⟨xa3, xc3, rfl⟩ := (FOwn.sl gcell_len o3).len
      have G2' := Lib.hid (Fs.below G2.out b3)
      clear o3 b3 J3 HJ3 HJ4 G2
      go_wp2_with fail
      refine J4.out.mono ?_
      rintro e w4 ⟨x4, rfl, o4, b4⟩
      have B4 := Lib.hid (Below.chain3 B3.out b4)
      have S1 := Lib.hid (HS1.out _ _ w4 (Fs.below G2'.out b4) (FOwn.sl gcell_len o4))
      obtain ⟨xa4, xc4, rfl⟩ := (FOwn.sl gcell_len o4).len
      clear o4 b4 J4 G2' HS1
      go_wp2_with fail
      refine S1.out.mono ?_
      rintro e w5 ⟨rfl, b5⟩
      have B5 := Lib.hid (Below.chain3 B4.out b5)
      have J5 := Lib.hid (HJ5.out w5 (Fs.below HA.out B5.out))
      clear b5 S1 HJ5
      go_wp2_with fail
      refine J5.out.mono ?_
      rintro e w6 ⟨x6, rfl, o6, b6⟩
      have B6 := Lib.hid (Below.chain3 B5.out b6)
      have S2 := Lib.hid (HS2.out _ _ w6 (FOwn.sl gcell_len o6) (Fs.below HA.out B6.out))
      obtain ⟨xa6, xc6, rfl⟩ := (FOwn.sl gcell_len o6).len
      clear o6 b6 J5
      go_wp2_with fail
      refine S2.out.mono ?_
      rintro e w7 ⟨rfl, b7⟩
      have B7 := Lib.hid (Below.chain3 B6.out b7)
      have J6 := Lib.hid (HJ6.out w7 (Fs.below HA.out B7.out))
      clear b7 S2 HJ6
      go_wp2_with fail
      refine J6.out.mono ?_
      rintro e w8 ⟨x8, rfl, o8, b8⟩
      have B8 := Lib.hid (Below.chain3 B7.out b8)
      have S3 := Lib.hid (HS2.out _ _ w8 (FOwn.sl gcell_len o8) (Fs.below HA.out B8.out))
      obtain ⟨xa8, xc8, rfl⟩ := (FOwn.sl gcell_len o8).len
      clear o8 b8 J6 HS2
      go_wp2_with fail
      refine S3.out.mono ?_
      rintro e w9 ⟨rfl, b9⟩
      have B9 := Lib.hid (Below.chain3 B8.out b9)
      have HK := Lib.hid (known_any w9)
      clear b9 S3
      go_wp2_with fail
      refine HK.out.mono ?_
      rintro e w10 ⟨rfl, b10⟩
      have B10 := Lib.hid (Below.chain3 B9.out b10)
      clear b10 HK
      go_wp2_with fail
      go_ret
      exact ⟨rfl, B10.out⟩
    · have t1 : (0 : Int) < (a.length : Int) := by omega
      have t2 : ¬ (0 : Int) < (b.length : Int) := by omega
      have t3 : (N : Int) = (a.length : Int) + (b.length : Int) := by omega
      clear e1 e2 e3
      go_wp2_with fail
      refine J2.out.mono ?_
      rintro e w2 ⟨x2, rfl, o2, b2⟩
      obtain ⟨xa2, xc2, rfl⟩ := (FOwn.sl gcell_len o2).len
      have G2 := Lib.hid (FOwn.sl gcell_len o2)
      have B2 := Lib.hid (Below.chain3 B1.out b2)
      have J3 := Lib.hid (HJ3.out w2 (Fs.below HB.out B2.out) (Fs.below HC.out B2.out))
      clear o2 b2 J2
      go_wp2_with fail
      refine J3.out.mono ?_
      rintro e w3 ⟨x3, rfl, o3, b3⟩
      have B3 := Lib.hid (Below.chain3 B2.out b3)
      have J4 := Lib.hid (HJ4.out _ w3 (Fs.below HA.out B3.out) (FOwn.sl gcell_len o3))
      obtain ⟨xa3, xc3, rfl⟩ := (FOwn.sl gcell_len o3).len
      have G2' := Lib.hid (Fs.below G2.out b3)
      clear o3 b3 J3 HJ3 HJ4 G2
      go_wp2_with fail
      refine J4.out.mono ?_
      rintro e w4 ⟨x4, rfl, o4, b4⟩
      have B4 := Lib.hid (Below.chain3 B3.out b4)
      have S1 := Lib.hid (HS1.out _ _ w4 (Fs.below G2'.out b4) (FOwn.sl gcell_len o4))
      obtain ⟨xa4, xc4, rfl⟩ := (FOwn.sl gcell_len o4).len
      clear o4 b4 J4 G2' HS1
      go_wp2_with fail
      refine S1.out.mono ?_
      rintro e w5 ⟨rfl, b5⟩
      have B5 := Lib.hid (Below.chain3 B4.out b5)
      have J5 := Lib.hid (HJ5.out w5 (Fs.below HA.out B5.out))
      clear b5 S1 HJ5
      go_wp2_with fail
      refine J5.out.mono ?_
      rintro e w6 ⟨x6, rfl, o6, b6⟩
      have B6 := Lib.hid (Below.chain3 B5.out b6)
      have S2 := Lib.hid (HS2.out _ _ w6 (FOwn.sl gcell_len o6) (Fs.below HA.out B6.out))
      obtain ⟨xa6, xc6, rfl⟩ := (FOwn.sl gcell_len o6).len
      clear o6 b6 J5
      go_wp2_with fail
      refine S2.out.mono ?_
      rintro e w7 ⟨rfl, b7⟩
      have B7 := Lib.hid (Below.chain3 B6.out b7)
      have J6 := Lib.hid (HJ6.out w7 (Fs.below HA.out B7.out))
      clear b7 S2 HJ6
      go_wp2_with fail
      refine J6.out.mono ?_
      rintro e w8 ⟨x8, rfl, o8, b8⟩
      have B8 := Lib.hid (Below.chain3 B7.out b8)
      have S3 := Lib.hid (HS2.out _ _ w8 (FOwn.sl gcell_len o8) (Fs.below HA.out B8.out))
      obtain ⟨xa8, xc8, rfl⟩ := (FOwn.sl gcell_len o8).len
      clear o8 b8 J6 HS2
      go_wp2_with fail
      refine S3.out.mono ?_
      rintro e w9 ⟨rfl, b9⟩
      have B9 := Lib.hid (Below.chain3 B8.out b9)
      have HK := Lib.hid (known_any w9)
      clear b9 S3
      go_wp2_with fail
      refine HK.out.mono ?_
      rintro e w10 ⟨rfl, b10⟩
      have B10 := Lib.hid (Below.chain3 B9.out b10)
      clear b10 HK
      go_wp2_with fail
      go_ret
      exact ⟨rfl, B10.out⟩
    · have t1 : (0 : Int) < (a.length : Int) := by omega
      have t2 : (0 : Int) < (b.length : Int) := by omega
      have t3 : (N : Int) = (a.length : Int) + (b.length : Int) + 1 := by omega
      clear e1 e2 e3
      go_wp2_with fail
      refine J2.out.mono ?_
      rintro e w2 ⟨x2, rfl, o2, b2⟩
      obtain ⟨xa2, xc2, rfl⟩ := (FOwn.sl gcell_len o2).len
      have G2 := Lib.hid (FOwn.sl gcell_len o2)
      have B2 := Lib.hid (Below.chain3 B1.out b2)
      have J3 := Lib.hid (HJ3.out w2 (Fs.below HB.out B2.out) (Fs.below HC.out B2.out))
      clear o2 b2 J2
      go_wp2_with fail
      refine J3.out.mono ?_
      rintro e w3 ⟨x3, rfl, o3, b3⟩
      have B3 := Lib.hid (Below.chain3 B2.out b3)
      have J4 := Lib.hid (HJ4.out _ w3 (Fs.below HA.out B3.out) (FOwn.sl gcell_len o3))
      obtain ⟨xa3, xc3, rfl⟩ := (FOwn.sl gcell_len o3).len
      have G2' := Lib.hid (Fs.below G2.out b3)
      clear o3 b3 J3 HJ3 HJ4 G2
      go_wp2_with fail
      refine J4.out.mono ?_
      rintro e w4 ⟨x4, rfl, o4, b4⟩
      have B4 := Lib.hid (Below.chain3 B3.out b4)
      have S1 := Lib.hid (HS1.out _ _ w4 (Fs.below G2'.out b4) (FOwn.sl gcell_len o4))
      obtain ⟨xa4, xc4, rfl⟩ := (FOwn.sl gcell_len o4).len
      clear o4 b4 J4 G2' HS1
      go_wp2_with fail
      refine S1.out.mono ?_
      rintro e w5 ⟨rfl, b5⟩
      have B5 := Lib.hid (Below.chain3 B4.out b5)
      have J5 := Lib.hid (HJ5.out w5 (Fs.below HA.out B5.out))
      clear b5 S1 HJ5
      go_wp2_with fail
      refine J5.out.mono ?_
      rintro e w6 ⟨x6, rfl, o6, b6⟩
      have B6 := Lib.hid (Below.chain3 B5.out b6)
      have S2 := Lib.hid (HS2.out _ _ w6 (FOwn.sl gcell_len o6) (Fs.below HA.out B6.out))
      obtain ⟨xa6, xc6, rfl⟩ := (FOwn.sl gcell_len o6).len
      clear o6 b6 J5
      go_wp2_with fail
      refine S2.out.mono ?_
      rintro e w7 ⟨rfl, b7⟩
      have B7 := Lib.hid (Below.chain3 B6.out b7)
      have J6 := Lib.hid (HJ6.out w7 (Fs.below HA.out B7.out))
      clear b7 S2 HJ6
      go_wp2_with fail
      refine J6.out.mono ?_
      rintro e w8 ⟨x8, rfl, o8, b8⟩
      have B8 := Lib.hid (Below.chain3 B7.out b8)
      have S3 := Lib.hid (HS2.out _ _ w8 (FOwn.sl gcell_len o8) (Fs.below HA.out B8.out))
      obtain ⟨xa8, xc8, rfl⟩ := (FOwn.sl gcell_len o8).len
      clear o8 b8 J6 HS2
      go_wp2_with fail
      refine S3.out.mono ?_
      rintro e w9 ⟨rfl, b9⟩
      have B9 := Lib.hid (Below.chain3 B8.out b9)
      have HK := Lib.hid (known_any w9)
      clear b9 S3
      go_wp2_with fail
      refine HK.out.mono ?_
      rintro e w10 ⟨rfl, b10⟩
      have B10 := Lib.hid (Below.chain3 B9.out b10)
      clear b10 HK
      go_wp2_with fail
      go_ret
      exact ⟨rfl, B10.out⟩
end Go.Proofs.Ytgfmpndojjopnaa
