/- Plain maths of the document's own reading: the shortest front that is a rune's bytes. -/
import Derived.Test.YtgfmpndojjopnaaM3
namespace Go.Proofs.Ytgfmpndojjopnaa
open Go.Lib

/-- What a row of one to four bytes would be, as a number. -/
def valF (n : Int) : List Int → Int
  | [] => n
  | x :: l => valF (n * 64 + x - 128) l
def valZ : List Int → Int
  | [] => 0
  | [a] => a
  | a :: b :: [] => valF (a - 192) [b]
  | a :: b :: c :: [] => valF (a - 224) [b, c]
  | a :: r => valF (a - 240) r
def isR (s : List Int) : Bool := vld (valZ s) && decide (encodeRuneZ (valZ s) = s)

set_option maxRecDepth 100000 in
theorem valZ_encode (z : Int) (hv : vld z = true) : valZ (encodeRuneZ z) = z := by
  simp only [vld, decide_eq_true_eq] at hv
  by_cases c1 : z < 128
  · rw [encodeRuneZ_one (by omega) (by omega)]; rfl
  · by_cases c2 : z < 2048
    · rw [encodeRuneZ_two (by omega) (by omega)]
      simp only [valZ, valF]
      omega
    · by_cases c3 : z < 65536
      · rw [encodeRuneZ_three (by omega)]
        simp only [valZ, valF]
        omega
      · rw [encodeRuneZ_four (by omega) (by omega)]
        simp only [valZ, valF]
        omega

def ints (b : List UInt8) : List Int := b.map fun x => (x.toNat : Int)
theorem ints_inj : ∀ {a b : List UInt8}, ints a = ints b → a = b
  | [], [], _ => rfl
  | [], y :: b, h => by simp [ints] at h
  | x :: a, [], h => by simp [ints] at h
  | x :: a, y :: b, h => by
    simp only [ints, List.map_cons, List.cons.injEq] at h
    have hx : x = y := UInt8.toNat_inj.1 (by omega)
    rw [hx, ints_inj (a := a) (b := b) h.2]
theorem ints_encode (z : Int) : ints (encodeRune z) = encodeRuneZ z := by
        unfold ints
        have h := encodeRuneZ_byte z
        unfold encodeRune
        rw [List.map_map]
        conv => rhs; rw [← List.map_id (encodeRuneZ z)]
        apply List.map_congr_left
        intro x hx
        have := h x hx
        simp only [Function.comp, id]
        rw [show x.toNat.toUInt8 = UInt8.ofNat x.toNat from rfl, UInt8.toNat_ofNat']
        omega

/-- A front that is a rune's bytes is what the decoder takes. -/
theorem isR_decode {r : List UInt8} {k : Nat} (hk : k ≤ r.length) (h : isR (ints (r.take k)) = true) :
    vld (valZ (ints (r.take k))) = true ∧ decodeL r = ((valZ (ints (r.take k))).toNat, k) := by
  unfold isR at h
  simp only [Bool.and_eq_true, decide_eq_true_eq] at h
  obtain ⟨hv, he⟩ := h
  refine ⟨hv, ?_⟩
  have e : r.take k = encodeRune (valZ (ints (r.take k))) := ints_inj (by rw [ints_encode, he])
  have hl : (encodeRune (valZ (ints (r.take k)))).length = k := by rw [← e, List.length_take]; omega
  have hd := decode_encode (valZ (ints (r.take k))) hv (r.drop k)
  rw [← e, List.take_append_drop] at hd
  rw [hd, List.length_take]
  congr 1
  omega
/-- What the decoder takes, where nothing is at fault, is such a front. -/
theorem decode_isR {r : List UInt8} (hne : r ≠ []) (hb : ¬ ((decodeL r).1 = 65533 ∧ (decodeL r).2 = 1)) : isR (ints (r.take (decodeL r).2)) = true := by
  rw [← encode_decode r hne hb, ints_encode]
  have hv := decodeL_vld r
  unfold isR
  rw [valZ_encode _ hv, hv]
  simp

/-- Found: the rune, and on behind it. -/
theorem dec_found {r : List UInt8} {k : Nat} (h1 : 1 ≤ k) (hk : k ≤ r.length) (h : isR (ints (r.take k)) = true) : dec r = valZ (ints (r.take k)) :: dec (r.drop k) := by
  obtain ⟨hv, hd⟩ := isR_decode hk h
  have hne : r ≠ [] := by intro h0; subst h0; simp at hk; omega
  rw [dec_step r hne, hd]
  congr 1
  exact Int.toNat_of_nonneg (vld_nonneg hv)
/-- None found: fffd, and on behind one byte. -/
theorem dec_odd {r : List UInt8} (hne : r ≠ []) (h : ∀ k, 1 ≤ k → k ≤ 4 → k ≤ r.length → isR (ints (r.take k)) = false) : dec r = 65533 :: dec (r.drop 1) := by
  by_cases hb : (decodeL r).1 = 65533 ∧ (decodeL r).2 = 1
  · rw [dec_step r hne, hb.1, hb.2]
    rfl
  · exfalso
    have h0 := decode_isR hne hb
    have h1 := decodeL_width r
    have h2 := decodeL_le r hne
    have h3 : (decodeL r).2 ≤ 4 := by
      have e := congrArg List.length (encode_decode r hne hb)
      have := (encodeRune_len ((decodeL r).1 : Int)).2
      rw [List.length_take] at e
      omega
    rw [h _ h1 h3 h2] at h0
    cases h0

theorem valF_snoc : ∀ (l : List Int) (n x : Int), valF n (l ++ [x]) = valF n l * 64 + x - 128
  | [], n, x => rfl
  | y :: l, n, x => by
    rw [List.cons_append]
    exact valF_snoc l _ x
theorem valF_bd {l : List Int} {n : Int} (hx : ∀ x ∈ l, 0 ≤ x ∧ x ≤ 255) (h1 : -256 ≤ n) (h2 : n ≤ 256) (hl : l.length ≤ 3) : -100000000 ≤ valF n l ∧ valF n l ≤ 100000000 := by
  match l, hl with
  | [], _ => simp only [valF]; omega
  | [x], _ =>
    have := hx x (by simp)
    simp only [valF]; omega
  | [x, y], _ =>
    have := hx x (by simp)
    have := hx y (by simp)
    simp only [valF]; omega
  | [x, y, z], _ =>
    have := hx x (by simp)
    have := hx y (by simp)
    have := hx z (by simp)
    simp only [valF]; omega
theorem valZ_bd {l : List Int} (hx : ∀ x ∈ l, 0 ≤ x ∧ x ≤ 255) (hl : l.length ≤ 4) : -100000000 ≤ valZ l ∧ valZ l ≤ 100000000 := by
  match l, hl with
  | [], _ => simp only [valZ]; omega
  | [a], _ =>
    have := hx a (by simp)
    simp only [valZ]; omega
  | [a, b], _ =>
    have ha := hx a (by simp)
    exact valF_bd (fun x h => hx x (List.mem_cons_of_mem _ h)) (by omega) (by omega) (by simp)
  | [a, b, c], _ =>
    have ha := hx a (by simp)
    exact valF_bd (fun x h => hx x (List.mem_cons_of_mem _ h)) (by omega) (by omega) (by simp)
  | [a, b, c, d], _ =>
    have ha := hx a (by simp)
    exact valF_bd (fun x h => hx x (List.mem_cons_of_mem _ h)) (by omega) (by omega) (by simp)
end Go.Proofs.Ytgfmpndojjopnaa
