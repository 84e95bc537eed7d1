/- The document's own answer for lines: has, sign. -/
import Derived.Test.YteckiifnldcjbaaDoorKN
import Derived.Test.YteckiifnldcjbaaDoorKK
import Derived.Test.YteckiifnldcjbaaDoorKH
namespace Go.Proofs.YteckiifnldcjbaaDoor
open Go.RowKit

theorem has_next {s : List UInt8} {p : Nat} {x : UInt8} {P : UInt8 → Bool} (h : (s.take p).any P = false) (hx : s[p]? = some x) (hP : P x = false) : (s.take (p + 1)).any P = false := by
  rw [List.take_add_one, hx, List.any_append, h]
  simp [hP]
theorem has_hit {s : List UInt8} {p : Nat} {x : UInt8} {P : UInt8 → Bool} (hx : s[p]? = some x) (hP : P x = true) : s.any P = true := List.any_eq_true.2 ⟨x, List.mem_iff_getElem?.2 ⟨p, hx⟩, hP⟩
theorem no_next {of : List UInt8} {k : Nat} {x y : UInt8} (h : x ∉ of.take k) (hy : of[k]? = some y) (hne : x ≠ y) : x ∉ of.take (k + 1) := by
  rw [List.take_add_one, hy]
  simp [h, hne]

set_option maxRecDepth 100000 in
set_option maxHeartbeats 2000000 in
theorem rhas_any (s of : List UInt8) (w : World) (hs : s.length ≤ 4000000000000000000) (ho : of.length ≤ 4000000000000000000) :
    Calls Tryd.prog 33 #[.string ⟨s.toArray⟩, .string ⟨of.toArray⟩] w fun e w' => e = .returned (.bool (s.any (of.contains ·))) ∧ ∃ m, w' = w.drewN m := by
  have hsz := arr_size s
  have hsz2 := arr_size of
  have HI := Lib.hid (fun j x (h : s[j]? = some x) => str_idx s j x h)
  have HJ := Lib.hid (fun j x (h : of[j]? = some x) => str_idx of j x h)
  obtain ⟨R, hR⟩ : ∃ R, s.any (of.contains ·) = R := ⟨_, rfl⟩
  rw [hR]
  have HR := Lib.hid hR
  clear hR
  go_enter Tryd.func33, Tryd.ntmps33
  go_wp2_with fail
  go_loopw [5] (fun i wr => ∃ p m : Nat, wr = w.drewN m ∧ i = .int .i64 (p : Int) ∧ p ≤ s.length ∧ (s.take p).any (of.contains ·) = false) (fun i _ => s.length - (intOf i).toNat)
  case atStart => exact ⟨0, 0, rfl, rfl, by omega, by simp⟩
  case round =>
    obtain ⟨p, m, hwr, rfl, hp, hno⟩ := hrel
    have HW := Lib.hid hwr
    have HN := Lib.hid hno
    clear hno hwr
    by_cases hlt : p < s.length
    · obtain ⟨x, hx⟩ : ∃ x, s[p]? = some x := ⟨s[p], List.getElem?_eq_getElem hlt⟩
      have HX := Lib.hid hx
      have k1 := HI.out p x hx
      have hlt' : (p : Int) < (s.length : Int) := by omega
      clear hx
      go_wp2_with fail
      go_loopw [6] (fun k wr2 => ∃ q m2 : Nat, wr2 = w.drewN m2 ∧ k = .int .i64 (q : Int) ∧ q ≤ of.length ∧ x ∉ of.take q) (fun k _ => of.length - (intOf k).toNat)
      case atStart => exact ⟨0, m, HW.out, rfl, by omega, by simp⟩
      case round =>
        obtain ⟨q, m2, hwr2, rfl, hq, hnx⟩ := hrel
        have HW2 := Lib.hid hwr2
        have HNX := Lib.hid hnx
        clear hnx hwr2 HW
        by_cases hql : q < of.length
        · obtain ⟨y, hy⟩ : ∃ y, of[q]? = some y := ⟨of[q], List.getElem?_eq_getElem hql⟩
          have HY := Lib.hid hy
          have k2 := HJ.out q y hy
          have hql' : (q : Int) < (of.length : Int) := by omega
          clear hy
          by_cases hxy : x = y
          · subst hxy
            have HH := Lib.hid (has_hit (P := (of.contains ·)) HX.out (by simpa using List.mem_iff_getElem?.2 ⟨q, HY.out⟩))
            have ht : ((x.toNat : Int) == (x.toNat : Int)) = true := by simp
            clear HN HNX
            go_wp2_with fail
            go_quiet (fail)
            go_wp2
            go_ret
            exact ⟨ret_bool (by rw [← HR.out, HH.out]), _, by rw [HW2.out, drewN_add]⟩
          · have hne : ((x.toNat : Int) == (y.toNat : Int)) = false := byte_ne hxy
            have HT := Lib.hid (no_next HNX.out HY.out hxy)
            clear hxy HNX
            go_wp2_with fail
            go_quiet (fail)
            go_wp2
            go_roundw
            case rel => exact ⟨q + 1, _, by rw [HW2.out, drewN_add], by go_num, by omega, HT.out⟩
            case measure => simp [intOf]; omega
        · obtain rfl : q = of.length := by omega
          have hql' : ¬ (of.length : Int) < (of.length : Int) := by omega
          have HT := Lib.hid (has_next (P := (of.contains ·)) HN.out HX.out (by
            have := HNX.out
            rw [List.take_length] at this
            simpa using this))
          clear HNX HN
          go_wp2_with fail
          go_roundw
          case rel => exact ⟨p + 1, m2, HW2.out, by go_num, by omega, HT.out⟩
          case measure => simp [intOf]; omega
    · obtain rfl : p = s.length := by omega
      have hlt' : ¬ (s.length : Int) < (s.length : Int) := by omega
      have hall : s.any (of.contains ·) = false := by have := HN.out; rwa [List.take_length] at this
      have HALL := Lib.hid hall
      clear hall HN
      go_wp2_with fail
      go_ret
      exact ⟨ret_bool (by rw [← HR.out, HALL.out]), _, HW.out⟩
theorem ptd_head (t : List UInt8) : ptd t = (t.head? == some 46 || t.head? == some 39) := by
  cases t with
  | nil => rfl
  | cons c t => simp [ptd, Lib.hasPrefix, List.isPrefixOf]
end Go.Proofs.YteckiifnldcjbaaDoor
