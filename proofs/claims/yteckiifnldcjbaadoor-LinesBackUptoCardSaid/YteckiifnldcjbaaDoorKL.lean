/- Whether a text has one of some bytes, however long it is: some answer. -/
import Derived.Test.YteckiifnldcjbaaDoorKI
import Derived.Shelf.Strings.IndexAnyAll
namespace Go.Proofs.YteckiifnldcjbaaDoor
open Go.RowKit

set_option maxRecDepth 1000000 in
set_option maxHeartbeats 8000000 in
theorem indexAny_big (s cs : List UInt8) (w : World) (h2 : 2 ≤ cs.length) (hcs : cs.length ≤ 1000) (h8 : 8 < s.length) (hs : s.length ≤ 4000000000000000000) (ha : ∀ (j : Nat) b, cs[j]? = some b → b.toNat < 128) :
    Calls Tryd.prog 67 #[.string ⟨s.toArray⟩, .string ⟨cs.toArray⟩] w fun e w' => ∃ i : Int, e = .returned (.int .i64 i) ∧ Below w.heap.size w w' := by
  have hz := zero_of_info (P := Tryd.prog) (t := 90) (v := .agg (Array.replicate 256 (.bool false))) (n := 256) (by kernel_rfl)
  have HS := Lib.hid (Any.strings_makeASCIISet { lays150 with } hz.1 hz.2 ⟨cs.toArray⟩ w (by rw [arr_size]; omega) ha)
  have HI := Lib.hid (fun j x (h : s[j]? = some x) => str_idx s j x h)
  have hsz := arr_size s
  have hsz2 := arr_size cs
  obtain ⟨C, hC⟩ : ∃ C, Lib.setCells cs = C := ⟨_, rfl⟩
  have HCs : Hid (C.size = 256) := Lib.hid (by rw [← hC]; exact Lib.setCells_size cs)
  have HCo : Hid ((C.all fun x => x.oneCell') = true) := Lib.hid (by rw [← hC]; exact Lib.setCells_one _)
  have hsc := run_storeCells_new (P := Tryd.prog) (w.alloc (.cells C 90)) 90 (Array.replicate 256 (.bool false)) C (by rw [HCs.out]; exact hz.2) (by rw [HCs.out, Array.size_replicate]) HCo.out
  rw [World.size_alloc] at hsc
  have HCC : Hid (∀ x : UInt8, ((w.alloc (.cells C 90)).alloc (.cells C 90)).cell? ⟨w.heap.size + 1, x.toNat, none⟩ = some (.bool (cs.contains x))) := Lib.hid fun x => by
    rw [World.cell?_alloc_at _ _ _ _ (by simp), ← hC, Lib.setCells_at]
  have HS' : Hid (Calls Tryd.prog 72 #[.string ⟨cs.toArray⟩] w fun e w' => e = .returned (.tuple #[.agg C, .bool true]) ∧ w.alloc (.cells C 90) = w') := Lib.hid (by
    subst hC
    exact HS.out.mono fun e w' ⟨h1, h2⟩ => ⟨h1, h2.symm⟩)
  have hbw : Below w.heap.size w ((w.alloc (.cells C 90)).alloc (.cells C 90)) := ((Below.refl _ w).alloc (Nat.le_refl _) _).alloc (by simp) _
  have HBW := Lib.hid hbw
  have HU : Hid (∀ W, Calls Tryd.prog 85 #[.int .i64 (s.length : Int)] W fun e w' => e = .returned (.bool true) ∧ W = w') := Lib.hid fun W => by
    have h := useSet_any (s.length : Int) W
    rw [decide_eq_true (by omega)] at h
    exact h.mono fun e w' ⟨h1, h2⟩ => ⟨h1, h2.symm⟩
  have hemp : (⟨cs.toArray⟩ : ByteArray).toList.isEmpty = false := by
    rw [Lib.toList_data]
    cases cs with
    | nil => simp at h2
    | cons _ _ => rfl
  have hn1 : ((cs.length : Int) == 1) = false := beq_eq_false_iff_ne.2 (by omega)
  have hzz := hz.1
  have hC256 := HCs.out
  have hemp2 : cs.isEmpty = false := by
    cases cs with
    | nil => simp at h2
    | cons _ _ => rfl
  clear HS hbw ha hC HCs HCo hz
  generalize hW2 : (w.alloc (.cells C 90)).alloc (.cells C 90) = W2 at hsc HCC HBW
  go_enter Tryd.func67, Tryd.ntmps67
  go_wp2_with (first
    | (go_at_call 85; refine (HU.out _).mono ?_; rintro e w' ⟨rfl, rfl⟩)
    | (go_at_call 72; refine HS'.out.mono ?_; rintro e w' ⟨rfl, rfl⟩))
  have HC2 : Hid (∀ (x : UInt8) W, W = W2 → Calls Tryd.prog 86 #[.pointer (some ⟨w.heap.size + 1, 0, none⟩), .int .u8 x.toNat] W fun e w' => e = .returned (.bool (cs.contains x)) ∧ W = w') := Lib.hid fun x W hW => by
    subst hW
    exact (Any.asciiSet_contains { lays150 with } _ x _ _ (HCC.out x)).mono fun e w' ⟨h1, h2⟩ => ⟨h1, h2.symm⟩
  clear hsc hW2 HCC HS' HU hemp hn1 hzz hsz2 hemp2 hC256
  go_loopw [8] (fun i wr => ∃ j : Nat, wr = W2 ∧ i = .int .i64 (j : Int) ∧ j ≤ s.length) (fun i _ => s.length - (intOf i).toNat)
  case atStart => exact ⟨0, by first | rfl | trivial, rfl, by omega⟩
  case round =>
    obtain ⟨j, hwr, rfl, hj⟩ := hrel
    have HC3 := Lib.hid (fun x => HC2.out x _ hwr)
    subst hwr
    by_cases hlt : j < s.length
    · obtain ⟨x, hx⟩ : ∃ x, s[j]? = some x := ⟨s[j], List.getElem?_eq_getElem hlt⟩
      have k1 := HI.out j x hx
      have hlt' : (j : Int) < (s.length : Int) := by omega
      obtain ⟨q, hq⟩ : ∃ q, cs.contains x = q := ⟨_, rfl⟩
      have C1 := Lib.hid (HC3.out x)
      rw [hq] at C1
      clear hx hq HC3 HC2
      cases q
      · go_wp2_with (go_at_call 86; refine C1.out.mono ?_; rintro e w' ⟨rfl, rfl⟩)
        go_roundw
        case rel => exact ⟨j + 1, by first | rfl | trivial, by go_num, by omega⟩
        case measure => simp [intOf]; omega
      · go_wp2_with (go_at_call 86; refine C1.out.mono ?_; rintro e w' ⟨rfl, rfl⟩)
        go_ret
        first | exact ⟨_, rfl, HBW.out⟩ | exact ⟨⟨_, rfl⟩, HBW.out⟩
    · have hlt' : ¬ (j : Int) < (s.length : Int) := by omega
      clear HC3 HC2
      go_wp2_with fail
      go_ret
      first | exact ⟨_, rfl, HBW.out⟩ | exact ⟨⟨_, rfl⟩, HBW.out⟩
theorem containsAny_big (s cs : List UInt8) (w : World) (h2 : 2 ≤ cs.length) (hcs : cs.length ≤ 1000) (hs : s.length ≤ 4000000000000000000) (ha : ∀ (j : Nat) b, cs[j]? = some b → b.toNat < 128) :
    Calls Tryd.prog 50 #[.string ⟨s.toArray⟩, .string ⟨cs.toArray⟩] w fun e w' => ∃ q : Bool, e = .returned (.bool q) ∧ Below w.heap.size w w' := by
  have H : Hid (Calls Tryd.prog 67 #[.string ⟨s.toArray⟩, .string ⟨cs.toArray⟩] w fun e w' => ∃ i : Int, e = .returned (.int .i64 i) ∧ Below w.heap.size w w') := Lib.hid (by
    by_cases h8 : 8 < s.length
    · exact indexAny_big s cs w h2 hcs h8 hs ha
    · exact (indexAny_any s cs w h2 hcs (by omega) ha).mono fun e w' ⟨h1, h2⟩ => ⟨_, h1, h2⟩)
  clear ha
  go_enter Tryd.func50, Tryd.ntmps50
  go_wp2_with fail
  refine H.out.mono ?_
  rintro e w1 ⟨i, rfl, b1⟩
  go_wp2_with fail
  go_ret
  first | exact ⟨_, rfl, b1⟩ | exact ⟨⟨_, rfl⟩, b1⟩
end Go.Proofs.YteckiifnldcjbaaDoor
