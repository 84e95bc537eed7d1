/- Plain maths of UTF-8: what was written is read; what is right is what comes out again. -/
import Derived.Test.YtgfmpndojjopnaaM2
namespace Go.Proofs.Ytgfmpndojjopnaa
open Go.Lib

theorem byte_nat (z : Int) (h0 : 0 ≤ z) (h1 : z < 256) : ((z.toNat.toUInt8).toNat : Int) = z := by
  rw [show z.toNat.toUInt8 = UInt8.ofNat z.toNat from rfl, UInt8.toNat_ofNat']
  omega

set_option maxRecDepth 100000 in
set_option maxHeartbeats 4000000 in
/-- A rune that may be is read from its bytes, whatever follows. -/
theorem decode_encode (z : Int) (hv : vld z = true) (r : List UInt8) : decodeL (encodeRune z ++ r) = (z.toNat, (encodeRune z).length) := by
  simp only [vld, decide_eq_true_eq] at hv
  obtain ⟨n, rfl⟩ : ∃ n : Nat, z = n := ⟨z.toNat, by omega⟩
  rw [decodeL_N]
  unfold encodeRune
  by_cases c1 : n < 128
  · rw [encodeRuneZ_one (by omega) (by omega)]
    have b0 : ((n : Int).toNat.toUInt8).toNat = n := by have := byte_nat (n : Int) (by omega) (by omega); omega
    simp only [List.map_cons, List.map_nil, List.cons_append, List.nil_append, List.getD_cons_zero, List.length_cons, List.length_nil]
    rw [b0, decodeN_ascii _ _ _ _ _ c1]
    simp
  · by_cases c2 : n < 2048
    · rw [encodeRuneZ_two (by omega) (by omega)]
      have b0 : ((192 + (n : Int) / 64).toNat.toUInt8).toNat = 192 + n / 64 := by have := byte_nat (192 + (n : Int) / 64) (by omega) (by omega); omega
      have b1 : ((128 + (n : Int) % 64).toNat.toUInt8).toNat = 128 + n % 64 := by have := byte_nat (128 + (n : Int) % 64) (by omega) (by omega); omega
      simp only [List.map_cons, List.map_nil, List.cons_append, List.nil_append, List.getD_cons_zero, List.getD_cons_succ, List.length_cons, List.length_nil]
      rw [b0, b1]
      unfold decodeN
      rw [if_neg (by omega), if_pos (by omega), if_pos (by omega)]
      simp
      omega
    · by_cases c3 : n < 65536
      · rw [encodeRuneZ_three (by omega)]
        have b0 : ((224 + (n : Int) / 4096).toNat.toUInt8).toNat = 224 + n / 4096 := by have := byte_nat (224 + (n : Int) / 4096) (by omega) (by omega); omega
        have b1 : ((128 + (n : Int) / 64 % 64).toNat.toUInt8).toNat = 128 + n / 64 % 64 := by have := byte_nat (128 + (n : Int) / 64 % 64) (by omega) (by omega); omega
        have b2 : ((128 + (n : Int) % 64).toNat.toUInt8).toNat = 128 + n % 64 := by have := byte_nat (128 + (n : Int) % 64) (by omega) (by omega); omega
        simp only [List.map_cons, List.map_nil, List.cons_append, List.nil_append, List.getD_cons_zero, List.getD_cons_succ, List.length_cons, List.length_nil]
        rw [b0, b1, b2]
        unfold decodeN
        rw [if_neg (by omega), if_neg (by omega), if_pos (by omega), if_pos (by omega)]
        simp
        omega
      · rw [encodeRuneZ_four (by omega) (by omega)]
        have b0 : ((240 + (n : Int) / 262144).toNat.toUInt8).toNat = 240 + n / 262144 := by have := byte_nat (240 + (n : Int) / 262144) (by omega) (by omega); omega
        have b1 : ((128 + (n : Int) / 4096 % 64).toNat.toUInt8).toNat = 128 + n / 4096 % 64 := by have := byte_nat (128 + (n : Int) / 4096 % 64) (by omega) (by omega); omega
        have b2 : ((128 + (n : Int) / 64 % 64).toNat.toUInt8).toNat = 128 + n / 64 % 64 := by have := byte_nat (128 + (n : Int) / 64 % 64) (by omega) (by omega); omega
        have b3 : ((128 + (n : Int) % 64).toNat.toUInt8).toNat = 128 + n % 64 := by have := byte_nat (128 + (n : Int) % 64) (by omega) (by omega); omega
        simp only [List.map_cons, List.map_nil, List.cons_append, List.nil_append, List.getD_cons_zero, List.getD_cons_succ, List.length_cons, List.length_nil]
        rw [b0, b1, b2, b3]
        unfold decodeN
        rw [if_neg (by omega), if_neg (by omega), if_neg (by omega), if_pos (by omega), if_pos (by omega)]
        simp
        omega

/-- One that may not be is written as that of fffd. -/
theorem encode_bad (z : Int) (hv : vld z = false) : encodeRune z = encodeRune 65533 := by
  simp only [vld, decide_eq_false_iff_not] at hv
  unfold encodeRune
  rw [encodeRuneZ_bad (by omega)]
  rfl
/-- What comes out again. -/
def fx (z : Int) : Int := if vld z = true then z else 65533
theorem vld_fx (z : Int) : vld (fx z) = true := by unfold fx; split; assumption; decide
theorem encode_fx (z : Int) : encodeRune z = encodeRune (fx z) := by
  unfold fx
  split
  · rfl
  · rename_i h
    exact encode_bad z (by simpa using h)
theorem vld_nonneg {z : Int} (h : vld z = true) : 0 ≤ z := by simp only [vld, decide_eq_true_eq] at h; omega

theorem encodeRune_ne (z : Int) (r : List UInt8) : encodeRune z ++ r ≠ [] := by
  have := encodeRune_len z
  intro h
  have h2 := congrArg List.length h
  simp only [List.length_append, List.length_nil] at h2
  omega
theorem dec_encode (z : Int) (r : List UInt8) : dec (encodeRune z ++ r) = fx z :: dec r := by
  have hv := vld_fx z
  rw [encode_fx z, dec_step _ (encodeRune_ne _ _), decode_encode _ hv]
  simp only [List.drop_left]
  rw [Int.toNat_of_nonneg (vld_nonneg hv)]
theorem dec_enc_fx (l : List Int) : dec (enc l) = l.map fx := by
  induction l with
  | nil => rfl
  | cons z l ih => rw [enc_cons, dec_encode, ih]; rfl
theorem dec_enc (l : List Int) (h : ∀ z ∈ l, vld z = true) : dec (enc l) = l := by
  rw [dec_enc_fx]
  conv => rhs; rw [← List.map_id l]
  apply List.map_congr_left
  intro z hz
  simp [fx, h z hz]
theorem enc_valid (l : List Int) : validD (enc l) = true := by
  induction l with
  | nil => rfl
  | cons z l ih =>
    have hv := vld_fx z
    rw [enc_cons, encode_fx z, validD_step _ (encodeRune_ne _ _), decode_encode _ hv]
    have hn : ¬ ((fx z).toNat = 65533 ∧ (encodeRune (fx z)).length = 1) := by
      rintro ⟨h1, h2⟩
      have h0 := vld_nonneg hv
      have e : fx z = 65533 := by omega
      rw [e] at h2
      revert h2
      decide
    rw [if_neg hn]
    simp only [List.drop_left]
    exact ih
set_option maxRecDepth 100000 in
set_option maxHeartbeats 4000000 in
theorem decodeL_vld (l : List UInt8) : vld ((decodeL l).1 : Int) = true := by
  rw [decodeL_N]
  have h := decodeN_valid l.length (l.getD 0 0).toNat (l.getD 1 0).toNat (l.getD 2 0).toNat (l.getD 3 0).toNat (l.getD 0 0).toNat_lt
  unfold vld
  rw [decide_eq_true_eq]
  omega
theorem dec_vld : ∀ (n : Nat) (l : List UInt8), l.length ≤ n → ∀ z ∈ dec l, vld z = true
  | 0, l, h, z, hz => by
    have : l = [] := List.eq_nil_of_length_eq_zero (by omega)
    subst this
    simp [dec_nil] at hz
  | n + 1, l, h, z, hz => by
    by_cases hne : l = []
    · subst hne; simp [dec_nil] at hz
    · have hl : 0 < l.length := List.length_pos_iff.2 hne
      have hw := decodeL_width l
      rw [dec_step l hne] at hz
      rcases List.mem_cons.1 hz with rfl | hz
      · exact decodeL_vld l
      · exact dec_vld n (l.drop (decodeL l).2) (by rw [List.length_drop]; omega) z hz
/-- What is read, written and read again, is the same. -/
theorem dec_enc_dec (b : List UInt8) : dec (enc (dec b)) = dec b := dec_enc _ (dec_vld _ b (Nat.le_refl _))

theorem cancel_take {k : Nat} {b X : List UInt8} (h : b.take k ++ X = b) : X = b.drop k :=
  List.append_cancel_left (h.trans (List.take_append_drop k b).symm)

/-- Bytes are right just if they come out again. -/
theorem valid_iff : ∀ (n : Nat) (b : List UInt8), b.length ≤ n → (validD b = true ↔ enc (dec b) = b)
  | 0, b, h => by
    have : b = [] := List.eq_nil_of_length_eq_zero (by omega)
    subst this
    simp [dec_nil, enc, validD_nil]
  | n + 1, b, h => by
    by_cases hne : b = []
    · subst hne; simp [dec_nil, enc, validD_nil]
    · have hl : 0 < b.length := List.length_pos_iff.2 hne
      have hw := decodeL_width b
      have hle := decodeL_le b hne
      have ih := valid_iff n (b.drop (decodeL b).2) (by rw [List.length_drop]; omega)
      rw [validD_step b hne, dec_step b hne, enc_cons]
      by_cases hb : (decodeL b).1 = 65533 ∧ (decodeL b).2 = 1
      · rw [if_pos hb, hb.1, hb.2]
        constructor
        · intro h; cases h
        · intro h0
          exfalso
          have h1 : enc (dec b) = b := by rw [dec_step b hne, enc_cons, hb.1, hb.2]; exact h0
          have h2 : decodeL b = (65533, 3) := by
            rw [← h0]
            have := decode_encode 65533 (by decide) (enc (dec (b.drop 1)))
            exact this
          rw [h2] at hb
          exact absurd hb.2 (by decide)
      · rw [if_neg hb, encode_decode b hne hb, ih]
        constructor
        · intro h0
          rw [h0, List.take_append_drop]
        · intro h0
          exact cancel_take h0
theorem valid_eq (b : List UInt8) : validD b = decide (enc (dec b) = b) := by
  have h := valid_iff _ b (Nat.le_refl _)
  cases hv : validD b with
  | true => exact (decide_eq_true (h.1 hv)).symm
  | false =>
    symm
    rw [decide_eq_false_iff_not]
    intro h0
    rw [h.2 h0] at hv
    cases hv

/-- Of right bytes, and any others behind them, what is read is that of both. -/
theorem dec_app_enc (l : List Int) (b : List UInt8) (h : ∀ z ∈ l, vld z = true) : dec (enc l ++ b) = l ++ dec b := by
  induction l with
  | nil => simp [enc]
  | cons z l ih =>
    rw [enc_cons, List.append_assoc, dec_encode, ih (fun y hy => h y (by simp [hy]))]
    simp [fx, h z (by simp)]
theorem dec_app (a b : List UInt8) (h : validD a = true) : dec (a ++ b) = dec a ++ dec b := by
  have e := (valid_iff _ a (Nat.le_refl _)).1 h
  conv => lhs; rw [← e]
  exact dec_app_enc _ b (dec_vld _ a (Nat.le_refl _))
end Go.Proofs.Ytgfmpndojjopnaa
