/- Cut; known() is true. known() is true. Trim, in the program and in the document's answer. -/
import Derived.Test.YtienjlbpaedbjaaDoorG2
import Derived.Deep.RegionWith
import Derived.Deep.LoopGhost
namespace Go.Proofs.YtienjlbpaedbjaaDoor
open Go.RowKit
attribute [local go_sem ↓ high] slice_frontG slice_backG

/-- How many glyphs the longest front has. -/
def cutN : List Gly → Int → Nat
  | [], _ => 0
  | g :: l, r => if r < wd g.1 then 0 else cutN l (r - wd g.1) + 1
theorem cutN_le : ∀ (l : List Gly) (r : Int), cutN l r ≤ l.length
  | [], _ => Nat.le_refl _
  | g :: l, r => by
    unfold cutN
    split
    · omega
    · have := cutN_le l (r - wd g.1); simp only [List.length_cons]; omega
theorem cutN_stop {l : List Gly} {j : Nat} {g : Gly} {r : Int} (h : l[j]? = some g) (hr : r < wd g.1) : cutN (l.drop j) r = 0 := by
  have hlt := (List.getElem?_eq_some_iff.1 h).1
  rw [List.drop_eq_getElem_cons hlt]
  rw [List.getElem?_eq_getElem hlt] at h
  rw [Option.some.inj h]
  unfold cutN
  rw [if_pos hr]
theorem cutN_go {l : List Gly} {j : Nat} {g : Gly} {r : Int} (h : l[j]? = some g) (hr : ¬ r < wd g.1) : cutN (l.drop j) r = cutN (l.drop (j + 1)) (r - wd g.1) + 1 := by
  have hlt := (List.getElem?_eq_some_iff.1 h).1
  rw [List.drop_eq_getElem_cons hlt]
  rw [List.getElem?_eq_getElem hlt] at h
  rw [Option.some.inj h]
  conv => lhs; unfold cutN
  rw [if_neg hr]

/-- The two copies that Cut hands back. -/
def CutEnd (w : World) (l : List Gly) (n : Nat) (e : Ending) (w' : World) : Prop :=
  ∃ x y, e = .returned (.tuple #[x, y]) ∧ Gs w' x (l.take n) ∧ Gs w' y (l.drop n) ∧ Below w.heap.size w w'

end Go.Proofs.YtienjlbpaedbjaaDoor
namespace Go.Proofs.YtienjlbpaedbjaaDoor
open Go.RowKit
attribute [local go_sem ↓ high] slice_frontG slice_backG

def kl : List Gly := [(97, 0), (19968, 0), (98, 0)]

end Go.Proofs.YtienjlbpaedbjaaDoor
namespace Go.Proofs.YtienjlbpaedbjaaDoor
open Go.RowKit
attribute [local go_sem ↓ high] slice_frontG

/-- How many glyphs a row has without the blanks at its end. -/
def trimN : List Gly → Nat
  | [] => 0
  | g :: l => if trimN l = 0 ∧ g.1 = 32 then 0 else trimN l + 1
theorem trimN_le : ∀ l : List Gly, trimN l ≤ l.length
  | [] => Nat.le_refl _
  | g :: l => by
    unfold trimN
    split
    · omega
    · have := trimN_le l; simp only [List.length_cons]; omega
theorem trimN_tail : ∀ (l : List Gly) (j : Nat) (g : Gly), trimN l ≤ j → l[j]? = some g → g.1 = 32
  | [], j, g, _, h => by simp at h
  | x :: l, 0, g, hj, h => by
    simp at h
    subst h
    unfold trimN at hj
    split at hj
    · rename_i hx; exact hx.2
    · omega
  | x :: l, j + 1, g, hj, h => by
    refine trimN_tail l j g ?_ (by simpa using h)
    unfold trimN at hj
    split at hj
    · rename_i hx; omega
    · omega
theorem trimN_last : ∀ (l : List Gly) (g : Gly), 0 < trimN l → l[trimN l - 1]? = some g → g.1 ≠ 32
  | [], g, h, _ => by simp [trimN] at h
  | x :: l, g, h, hg => by
    by_cases hx : trimN l = 0 ∧ x.1 = 32
    · have : trimN (x :: l) = 0 := by unfold trimN; rw [if_pos hx]
      omega
    · have e : trimN (x :: l) = trimN l + 1 := by conv => lhs; unfold trimN; rw [if_neg hx]
      rw [e] at hg
      by_cases h0 : trimN l = 0
      · rw [h0] at hg
        simp at hg
        subst hg
        exact fun h32 => hx ⟨h0, h32⟩
      · have e2 : trimN l + 1 - 1 = trimN l - 1 + 1 := by omega
        rw [e2] at hg
        exact trimN_last l g (by omega) (by simpa using hg)
/-- It is the one number that is so. -/
theorem trimN_unique {l : List Gly} {n : Nat} (hn : n ≤ l.length) (h1 : ∀ j g, n ≤ j → l[j]? = some g → g.1 = 32) (h2 : ∀ g, 0 < n → l[n - 1]? = some g → g.1 ≠ 32) : n = trimN l := by
  have hl := trimN_le l
  by_cases h : n < trimN l
  · exfalso
    have hlt : trimN l - 1 < l.length := by omega
    have hg : l[trimN l - 1]? = some l[trimN l - 1] := List.getElem?_eq_getElem hlt
    exact trimN_last l _ (by omega) hg (h1 _ _ (by omega) hg)
  · by_cases h' : trimN l < n
    · exfalso
      have hlt : n - 1 < l.length := by omega
      have hg : l[n - 1]? = some l[n - 1] := List.getElem?_eq_getElem hlt
      exact h2 _ (by omega) hg (trimN_tail l _ _ (by omega) hg)
    · omega
def trimL (l : List Gly) : List Gly := l.take (trimN l)
theorem trimN_app_blanks (l : List Gly) (n : Nat) : trimN (l ++ List.replicate n (32, 0)) = trimN l := by
  symm
  apply trimN_unique
  · have := trimN_le l; simp; omega
  · intro j g hj hg
    by_cases hjl : j < l.length
    · rw [List.getElem?_append_left hjl] at hg
      exact trimN_tail l j g hj hg
    · rw [List.getElem?_append_right (by omega), List.getElem?_replicate] at hg
      split at hg
      · rw [← Option.some.inj hg]
      · cases hg
  · intro g h0 hg
    have := trimN_le l
    rw [List.getElem?_append_left (by omega)] at hg
    exact trimN_last l g h0 hg
theorem trimL_app_blanks (l : List Gly) (n : Nat) : trimL (l ++ List.replicate n (32, 0)) = trimL l := by
  unfold trimL
  rw [trimN_app_blanks, List.take_append_of_le_length (trimN_le l)]
theorem trimL_len (l : List Gly) : (trimL l).length = trimN l := by
  unfold trimL
  rw [List.length_take]
  have := trimN_le l
  omega

set_option maxRecDepth 100000 in
set_option maxHeartbeats 1000000 in
theorem rtrim_any (l : List Gly) (v : Value) (w : World) (hv : Gs w v l) (hl : l.length ≤ 100000) :
    Calls Tryd.prog 76 #[v] w fun e w' => ∃ u, e = .returned u ∧ Gs w' u (trimL l) ∧ w = w' := by
  have HV := Lib.hid hv
  obtain ⟨a, cap, rfl⟩ := hv.len
  clear hv
  go_enter Tryd.func76, Tryd.ntmps76
  go_wp2_with fail
  go_loopw [3] (fun s wr => ∃ n : Nat, n ≤ l.length ∧ s = .int .i64 n ∧ Hid (∀ j g, n ≤ j → l[j]? = some g → g.1 = 32) ∧ wr = w) (fun s _ => (intOf s).toNat)
  case atStart => exact ⟨l.length, Nat.le_refl _, rfl, Lib.hid (fun j g hj hg => by rw [List.getElem?_eq_none hj] at hg; cases hg), rfl⟩
  case round =>
    obtain ⟨n, hn, rfl, HB, rfl⟩ := hrel
    by_cases h0 : 0 < n
    · obtain ⟨m, rfl⟩ : ∃ m, n = m + 1 := ⟨n - 1, by omega⟩
      obtain ⟨z, hz⟩ : ∃ z, l[m]? = some z := ⟨l[m]'(by omega), List.getElem?_eq_getElem _⟩
      obtain ⟨g, off, rfl, c0, c1, -⟩ := Gs.at HV.out hz
      have hi0 : (m : Int) < (l.length : Int) := by omega
      have hi1 : (0 : Int) ≤ (m : Int) := by omega
      have HZ := Lib.hid hz
      clear hz c1
      by_cases h32 : z.1 = 32
      · have HN : Hid (∀ j g, m ≤ j → l[j]? = some g → g.1 = 32) := Lib.hid (fun j g hj hg => by
          by_cases e : j = m
          · subst e
            rw [HZ.out] at hg
            rw [← Option.some.inj hg]; exact h32
          · exact HB.out j g (by omega) hg)
        go_wp2_with fail
        go_roundw
        case rel => exact ⟨m, by omega, by go_num, HN, by first | trivial | rfl⟩
        case measure => (simp [intOf]; try omega)
      · have HN : Hid (m + 1 = trimN l) := Lib.hid (trimN_unique hn HB.out (fun g _ hg => by
          rw [show m + 1 - 1 = m from rfl, HZ.out] at hg
          rw [← Option.some.inj hg]; exact h32))
        obtain ⟨u1, f1, s1, -⟩ := frontG_run HV.out (m + 1) hn
        have f1' := f1
        simp only [Int.natCast_add, Int.natCast_one, Int.natCast_zero, Int.cast_ofNat_Int] at f1'
        have O1 : Hid (Gs wr u1 (trimL l)) := Lib.hid (by unfold trimL; rw [← HN.out]; exact s1)
        clear s1 f1
        go_wp2_with fail
        go_ret
        exact ⟨_, rfl, O1.out, rfl⟩
    · obtain rfl : n = 0 := by omega
      have HN : Hid (0 = trimN l) := Lib.hid (trimN_unique hn HB.out (fun g h _ => absurd h (by omega)))
      obtain ⟨u1, f1, s1, -⟩ := frontG_run HV.out 0 hn
      have f1' := f1
      simp only [Int.natCast_add, Int.natCast_one, Int.natCast_zero, Int.cast_ofNat_Int] at f1'
      have O1 : Hid (Gs wr u1 (trimL l)) := Lib.hid (by unfold trimL; rw [← HN.out]; exact s1)
      clear s1 f1
      go_wp2_with fail
      go_ret
      exact ⟨_, rfl, O1.out, rfl⟩
end Go.Proofs.YtienjlbpaedbjaaDoor
