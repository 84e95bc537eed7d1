/- The document's own: fonts, names. -/
import Derived.Test.YtgfmpndojjopnaaEf
namespace Go.Proofs.Ytgfmpndojjopnaa
open Go.RowKit

/-- A slice of texts. -/
def fstr (b : List UInt8) : List Value := [.string ⟨b.toArray⟩]
theorem fstr_len (b : List UInt8) : (fstr b).length = 1 := rfl
theorem Fs.str {w : World} {a : Option Addr} {m cap : Nat} {l : List (List UInt8)} (h : Fs 1 fstr w (.slice a m cap) l) {j : Nat} {s : List UInt8} (hj : l[j]? = some s) : ∃ g off, a = some ⟨g, off, none⟩ ∧ w.cell? ⟨g, off + j, none⟩ = some (.string ⟨s.toArray⟩) := by
  obtain ⟨a', cap', hv, _, hr⟩ := h
  injection hv with h1 h2 h3
  subst h1
  obtain ⟨g, off, rfl, h0⟩ := hr j s hj
  have := h0 0 _ rfl
  rw [Nat.mul_one, Nat.add_zero] at this
  exact ⟨g, off, rfl, this⟩

def ftTab : List (List UInt8 × Int) := [([82], 0), ([66], 1), ([73], 2), ([66, 73], 3), ([80], 4)]
theorem ft_at : ∀ (j : Nat) (p : List UInt8 × Int), ftTab[j]? = some p → p.2 = j
  | 0, p, h => by cases h; rfl
  | 1, p, h => by cases h; rfl
  | 2, p, h => by cases h; rfl
  | 3, p, h => by cases h; rfl
  | 4, p, h => by cases h; rfl
  | j + 5, p, h => by simp [ftTab] at h
theorem nmLook_hit {l : List (List UInt8 × Int)} {j : Nat} {p : List UInt8 × Int} (h : l[j]? = some p) : nmLook (l.drop j) p.1 = some p.2 := by
  obtain ⟨hp, rfl⟩ := List.getElem?_eq_some_iff.1 h
  rw [List.drop_eq_getElem_cons hp]
  simp [nmLook]
theorem nmLook_miss {l : List (List UInt8 × Int)} {j : Nat} {p : List UInt8 × Int} {b : List UInt8} (h : l[j]? = some p) (hb : ¬ p.1 = b) : nmLook (l.drop j) b = nmLook (l.drop (j + 1)) b := by
  obtain ⟨hp, rfl⟩ := List.getElem?_eq_some_iff.1 h
  rw [List.drop_eq_getElem_cons hp]
  simp [nmLook, hb]
theorem ft_none {b : List UInt8} (h : nmLook ftTab b = none) : b ≠ [82] ∧ b ≠ [66] ∧ b ≠ [73] ∧ b ≠ [66, 73] ∧ b ≠ [80] := by
  refine ⟨?_, ?_, ?_, ?_, ?_⟩ <;> (rintro rfl; exact absurd h (by decide))
theorem ftOf_hit {b : List UInt8} {i : Int} (h : nmLook ftTab b = some i) : ftOf b = some i := by
  simp only [nmLook, ftTab] at h
  split at h
  · rename_i e; cases e; cases h; decide
  · split at h
    · rename_i e; cases e; cases h; decide
    · split at h
      · rename_i e; cases e; cases h; decide
      · split at h
        · rename_i e; cases e; cases h; decide
        · split at h
          · rename_i e; cases e; cases h; decide
          · cases h
theorem ftOf_digit {x : UInt8} (h0 : 49 ≤ x.toNat) (h1 : x.toNat ≤ 52) : ftOf [x] = some ((x.toNat : Int) - 49) := by
  have : x = 49 ∨ x = 50 ∨ x = 51 ∨ x = 52 := by
    have hx : x.toNat = 49 ∨ x.toNat = 50 ∨ x.toNat = 51 ∨ x.toNat = 52 := by omega
    rcases hx with h | h | h | h
    · exact .inl (UInt8.toNat_inj.1 h)
    · exact .inr (.inl (UInt8.toNat_inj.1 h))
    · exact .inr (.inr (.inl (UInt8.toNat_inj.1 h)))
    · exact .inr (.inr (.inr (UInt8.toNat_inj.1 h)))
  rcases this with rfl | rfl | rfl | rfl <;> decide
theorem ftOf_none {b : List UInt8} (h : nmLook ftTab b = none) (h2 : ∀ x : UInt8, b = [x] → ¬ (49 ≤ x.toNat ∧ x.toNat ≤ 52)) : ftOf b = none := by
  obtain ⟨a1, a2, a3, a4, a5⟩ := ft_none h
  have b1 : b ≠ [49] := fun e => h2 49 e (by decide)
  have b2 : b ≠ [50] := fun e => h2 50 e (by decide)
  have b3 : b ≠ [51] := fun e => h2 51 e (by decide)
  have b4 : b ≠ [52] := fun e => h2 52 e (by decide)
  unfold ftOf
  simp [a1, a2, a3, a4, a5, b1, b2, b3, b4]

set_option maxRecDepth 100000 in
set_option maxHeartbeats 2000000 in
theorem rfontS_any (b : List UInt8) (w : World) (hb : b.length ≤ 100000) :
    Calls Try.prog 43 #[.string ⟨b.toArray⟩] w fun e w' => e = .returned (.int .i64 ((ftOf b).getD (-1))) ∧ Below w.heap.size w w' := by
  have hsz : (⟨b.toArray⟩ : ByteArray).size = b.length := by simp [Go.Lib.size_eq]
  have B1 := below_lit w (.cells #[.string ⟨#[82]⟩, .string ⟨#[66]⟩, .string ⟨#[73]⟩, .string ⟨#[66, 73]⟩, .string ⟨#[80]⟩] 9)
  have S1 := Lib.hid (fs_lit fstr_len w 9 (ftTab.map (·.1)))
  obtain ⟨W1, hW1⟩ : ∃ W1, w.alloc (.cells #[.string ⟨#[82]⟩, .string ⟨#[66]⟩, .string ⟨#[73]⟩, .string ⟨#[66, 73]⟩, .string ⟨#[80]⟩] 9) = W1 := ⟨_, rfl⟩
  have S1' : Hid (Fs 1 fstr (w.alloc (.cells #[.string ⟨#[82]⟩, .string ⟨#[66]⟩, .string ⟨#[73]⟩, .string ⟨#[66, 73]⟩, .string ⟨#[80]⟩] 9)) (.slice (some ⟨w.heap.size, 0, none⟩) 5 5) (ftTab.map (·.1))) := S1
  have HW := Lib.hid hW1
  rw [hW1] at B1 S1'
  have HB1 := Lib.hid B1
  have HFT := Lib.hid (fun i (h : nmLook ftTab b = some i) => ftOf_hit h)
  have HFN := Lib.hid (fun (h : nmLook ftTab b = none) => ftOf_none (b := b) h)
  obtain ⟨F, hF⟩ : ∃ F, ftOf b = F := ⟨_, rfl⟩
  rw [hF] at HFT HFN
  have HFF := Lib.hid hF
  rw [hF]
  obtain ⟨X, hX⟩ : ∃ X, nmLook ftTab b = X := ⟨_, rfl⟩
  have HX := Lib.hid hX
  clear hF hW1 B1 S1 hX
  go_enter Try.func43, Try.ntmps43
  go_wp2_with fail
  rw [HW.out]
  go_loopw [4] (fun i wr => ∃ j : Nat, j ≤ 5 ∧ i = .int .i64 j ∧ wr = W1 ∧ nmLook (ftTab.drop j) b = X) (fun i _ => 5 - (intOf i).toNat)
  case atStart => exact ⟨0, by omega, rfl, rfl, by simpa using HX.out⟩
  case round =>
    obtain ⟨j, hj, rfl, rfl, hl⟩ := hrel
    have HL := Lib.hid hl
    clear hl
    by_cases hlt : j < 5
    · obtain ⟨p, hp⟩ : ∃ p, ftTab[j]? = some p := ⟨ftTab[j]'(by simpa [ftTab] using hlt), List.getElem?_eq_getElem _⟩
      obtain ⟨g, off, he, c0⟩ := S1'.out.str (j := j) (s := p.1) (by simp [hp])
      cases he
      rw [Nat.zero_add] at c0
      have hpj := ft_at j p hp
      have hi0 : (j : Int) < 5 := by omega
      have hi1 : (0 : Int) ≤ (j : Int) := by omega
      by_cases he : p.1 = b
      · have hX : X = some (j : Int) := by
          rw [← HL.out, ← he, nmLook_hit hp, hpj]
        have hFj := HFT.out (j : Int) (by rw [HX.out, hX])
        subst hFj
        have hbq : (p.1 == b) = true := by simpa using he
        clear hp hpj he hX
        try simp only [Option.getD_some]
        go_wp2_with fail
        go_ret
        exact ⟨rfl, HB1.out⟩
      · have hnx := Lib.hid (show nmLook (ftTab.drop (j + 1)) b = X by rw [← HL.out, nmLook_miss hp he])
        have hbq : (p.1 == b) = false := by simpa using he
        clear hp hpj he
        go_wp2_with fail
        go_roundw
        case rel => exact ⟨j + 1, by omega, by go_num, by first | trivial | rfl, hnx.out⟩
        case measure => simp [intOf]; omega
    · obtain rfl : j = 5 := by omega
      have hXn : X = none := by
        rw [← HL.out]
        rfl
      have HN := HFN.out (by rw [HX.out, hXn])
      by_cases h1 : b.length = 1
      · obtain ⟨x, rfl⟩ : ∃ x, b = [x] := by
          match b, h1 with
          | [x], _ => exact ⟨x, rfl⟩
        have k0 : ∀ w, (Instr.index 9 (.string ⟨[x].toArray⟩) (.int .i64 0)).run Try.prog w = .ok (.int .u8 (x.toNat : Int)) w := str_idx [x] 0 x rfl
        by_cases h2 : 49 ≤ x.toNat ∧ x.toNat ≤ 52
        · have hFj := HFF.out.symm.trans (ftOf_digit h2.1 h2.2)
          subst hFj
          obtain ⟨h3, h4⟩ := h2
          have h3' : (49 : Int) ≤ (x.toNat : Int) := by omega
          have h4' : (x.toNat : Int) ≤ 52 := by omega
          try simp only [Option.getD_some]
          clear HN HFF HFN HFT HX HL hXn
          go_wp2_with fail
          go_ret
          exact ⟨rfl, HB1.out⟩
        · have hFj := HN (fun y hy => by cases hy; exact h2)
          subst hFj
          try simp only [Option.getD_none]
          clear HN HFF HFN HFT HX HL hXn
          by_cases h3 : (49 : Int) ≤ (x.toNat : Int)
          · have h4 : ¬ (x.toNat : Int) ≤ 52 := fun h => h2 (by omega)
            clear h2
            go_wp2_with fail
            go_ret
            exact ⟨rfl, HB1.out⟩
          · clear h2
            go_wp2_with fail
            go_ret
            exact ⟨rfl, HB1.out⟩
      · have hFj := HN (fun y hy => by rw [hy] at h1; exact absurd rfl h1)
        subst hFj
        try simp only [Option.getD_none]
        have h1' : ((b.length : Int) == 1) = false := by simp; omega
        clear HN HFF HFN HFT HX HL hXn
        go_wp2_with fail
        go_ret
        exact ⟨rfl, HB1.out⟩
end Go.Proofs.Ytgfmpndojjopnaa
