/- Plain maths of UTF-8: what bytes are as runes (dec), what runes are as bytes (enc). -/
import Derived.Lib.MapLaws
import Derived.Lib.ValidLaws
import Derived.Lib.ValidAsc
import Derived.Lib.QuoteLoop
import Derived.Laws.Cover4
import Derived.Test.YtienjlbpaedbjaaDoorW3
namespace Go.Proofs.YtienjlbpaedbjaaDoor
open Go.Lib

def decGo : Nat → List UInt8 → List Int
  | 0, _ => []
  | n + 1, l => if l = [] then [] else ((decodeL l).1 : Int) :: decGo n (l.drop (decodeL l).2)
def dec (l : List UInt8) : List Int := decGo l.length l
def enc (l : List Int) : List UInt8 := (l.map encodeRune).flatten

theorem decGo_nil : ∀ n, decGo n [] = []
  | 0 => rfl
  | _ + 1 => by simp [decGo]
theorem decGo_fuel : ∀ (n m : Nat) (l : List UInt8), l.length ≤ n → l.length ≤ m → decGo n l = decGo m l
  | 0, m, l, hn, _ => by
    have : l = [] := List.eq_nil_of_length_eq_zero (by omega)
    subst this
    rw [decGo_nil, decGo_nil]
  | n + 1, 0, l, _, hm => by
    have : l = [] := List.eq_nil_of_length_eq_zero (by omega)
    subst this
    rw [decGo_nil, decGo_nil]
  | n + 1, m + 1, l, hn, hm => by
    unfold decGo
    by_cases hne : l = []
    · simp [hne]
    · have hw := decodeL_width l
      have hl : 0 < l.length := List.length_pos_iff.2 hne
      rw [if_neg hne, if_neg hne, decGo_fuel n m (l.drop (decodeL l).2) (by rw [List.length_drop]; omega) (by rw [List.length_drop]; omega)]
theorem dec_nil : dec [] = [] := rfl
theorem dec_step (l : List UInt8) (hne : l ≠ []) : dec l = ((decodeL l).1 : Int) :: dec (l.drop (decodeL l).2) := by
  have hl : 0 < l.length := List.length_pos_iff.2 hne
  have hw := decodeL_width l
  obtain ⟨n, hn⟩ : ∃ n, l.length = n + 1 := ⟨l.length - 1, by omega⟩
  unfold dec
  rw [hn]
  show (if l = [] then [] else _) = _
  rw [if_neg hne, decGo_fuel n (l.drop (decodeL l).2).length _ (by rw [List.length_drop]; omega) (Nat.le_refl _)]
theorem dec_len : ∀ (n : Nat) (l : List UInt8), l.length ≤ n → (dec l).length ≤ l.length
  | 0, l, h => by
    have : l = [] := List.eq_nil_of_length_eq_zero (by omega)
    subst this
    simp [dec_nil]
  | n + 1, l, h => by
    by_cases hne : l = []
    · subst hne; simp [dec_nil]
    · have hl : 0 < l.length := List.length_pos_iff.2 hne
      have hw := decodeL_width l
      have := dec_len n (l.drop (decodeL l).2) (by rw [List.length_drop]; omega)
      rw [dec_step l hne]
      simp only [List.length_cons, List.length_drop] at this ⊢
      omega
theorem dec_le (l : List UInt8) : (dec l).length ≤ l.length := dec_len _ l (Nat.le_refl _)
theorem dec_pos (l : List UInt8) (h : l ≠ []) : 0 < (dec l).length := by rw [dec_step l h]; simp
theorem dec_ascii (c : UInt8) (l : List UInt8) (h : c.toNat < 128) : dec (c :: l) = (c.toNat : Int) :: dec l := by
  rw [dec_step _ (by simp), decodeL_ascii c l h]
  simp

/-- The model's own reading, as dec. -/
theorem runesFrom_dec (s : ByteArray) : ∀ (n i : Nat) (acc : Array Value), Conv.runesFrom s n i acc = acc ++ ((decGo n (s.data.toList.drop i)).map (Value.int .i32)).toArray
  | 0, i, acc => by simp [Conv.runesFrom, decGo]
  | n + 1, i, acc => by
    unfold Conv.runesFrom decGo
    have hsz : s.size = s.data.toList.length := Go.Lib.size_eq s
    by_cases h : i < s.size
    · rw [if_pos h]
      have hne : s.data.toList.drop i ≠ [] := by
        intro h0
        have := congrArg List.length h0
        simp only [List.length_drop, List.length_nil] at this
        omega
      rw [if_neg hne, decodeL_drop]
      simp only
      rw [runesFrom_dec s n]
      apply Array.ext'
      simp only [List.drop_drop, Array.toList_append, Array.toList_push, List.map_cons, List.append_assoc, List.cons_append, List.nil_append]
      rfl
    · rw [if_neg h]
      have hnil : s.data.toList.drop i = [] := List.drop_eq_nil_of_le (by omega)
      rw [hnil]
      simp
theorem runesFrom_all (l : List UInt8) : Conv.runesFrom ⟨l.toArray⟩ l.length 0 #[] = ((dec l).map (Value.int .i32)).toArray := by
  rw [runesFrom_dec]
  simp [dec]

set_option maxRecDepth 100000 in
/-- The model's own writing, as enc. -/
theorem encode_eq (r : Int) : (Utf8.encode r).data.toList = encodeRune r := by
  unfold encodeRune
  by_cases h1 : (0 ≤ r ∧ r < 55296) ∨ (57344 ≤ r ∧ r ≤ 1114111)
  · have hv : Utf8.valid r = true := by unfold Utf8.valid; simpa using h1
    obtain ⟨n, rfl⟩ : ∃ n : Nat, r = n := ⟨r.toNat, by omega⟩
    unfold Utf8.encode
    rw [if_pos hv]
    simp only [Int.toNat_natCast]
    by_cases a : n < 128
    · rw [if_pos a, encodeRuneZ_one (by omega) (by omega)]
      simp
    · rw [if_neg a]
      by_cases b : n < 2048
      · rw [if_pos b, encodeRuneZ_two (by omega) (by omega)]
        simp only [List.map_cons, List.map_nil]
        have e1 : (192 + (n : Int) / 64).toNat = 192 + n / 64 := by omega
        have e2 : (128 + (n : Int) % 64).toNat = 128 + n % 64 := by omega
        rw [e1, e2]
      · rw [if_neg b]
        by_cases c : n < 65536
        · rw [if_pos c, encodeRuneZ_three (by omega)]
          simp only [List.map_cons, List.map_nil]
          have e1 : (224 + (n : Int) / 4096).toNat = 224 + n / 4096 := by omega
          have e2 : (128 + (n : Int) / 64 % 64).toNat = 128 + n / 64 % 64 := by omega
          have e3 : (128 + (n : Int) % 64).toNat = 128 + n % 64 := by omega
          rw [e1, e2, e3]
        · rw [if_neg c, encodeRuneZ_four (by omega) (by omega)]
          simp only [List.map_cons, List.map_nil]
          have e0 : (240 + (n : Int) / 262144).toNat = 240 + n / 262144 := by omega
          have e1 : (128 + (n : Int) / 4096 % 64).toNat = 128 + n / 4096 % 64 := by omega
          have e2 : (128 + (n : Int) / 64 % 64).toNat = 128 + n / 64 % 64 := by omega
          have e3 : (128 + (n : Int) % 64).toNat = 128 + n % 64 := by omega
          rw [e0, e1, e2, e3]
  · have hv : ¬ Utf8.valid r = true := by unfold Utf8.valid; simpa using h1
    unfold Utf8.encode
    rw [if_neg hv, encodeRuneZ_bad (by omega)]
    decide
theorem foldl_enc : ∀ (l : List Int) (s : ByteArray), (l.foldl (fun r n => r ++ Utf8.encode n) s).data.toList = s.data.toList ++ enc l
  | [], s => by simp [enc]
  | z :: l, s => by
    rw [List.foldl_cons, foldl_enc l]
    simp [enc, encode_eq]
theorem runesBytes_enc (l : List Int) : runesBytes l = ⟨(enc l).toArray⟩ := by
  have h := foldl_enc l ByteArray.empty
  unfold runesBytes
  have he : ByteArray.empty.data.toList = [] := rfl
  rw [he, List.nil_append] at h
  generalize List.foldl (fun r n => r ++ Utf8.encode n) ByteArray.empty l = s at h
  cases s
  simp only at h
  rw [← h]

theorem enc_cons (z : Int) (l : List Int) : enc (z :: l) = encodeRune z ++ enc l := by simp [enc]
theorem enc_app (a b : List Int) : enc (a ++ b) = enc a ++ enc b := by simp [enc]
theorem encodeRune_len (z : Int) : 1 ≤ (encodeRune z).length ∧ (encodeRune z).length ≤ 4 := by
  have := encodeRuneZ_length z
  simpa [encodeRune] using this
theorem enc_len (l : List Int) : (enc l).length ≤ 4 * l.length := by
  induction l with
  | nil => simp [enc]
  | cons z l ih =>
    have := encodeRune_len z
    rw [enc_cons]
    simp only [List.length_append, List.length_cons]
    omega
end Go.Proofs.YtienjlbpaedbjaaDoor
