/- Pieces of a row of runes; where a bracket closes; a reader's name. -/
import Derived.Test.YtgfmpndojjopnaaE6
namespace Go.Proofs.Ytgfmpndojjopnaa
open Go.RowKit

theorem infoRz : (Try.prog.info? 21).map (fun i => (i.zero, i.size, i.bytes)) = some (some (.int .i32 0), 1, 4) := by kernel_rfl
theorem Sl.len {k : IntKind} {w : World} {v : Value} {l : List Int} (h : Sl k w v l) : ∃ a cap, v = .slice a l.length cap := by
  obtain ⟨a, cap, rfl, _⟩ := h; exact ⟨a, cap, rfl⟩
theorem Sl.at {k : IntKind} {w : World} {a : Option Addr} {m cap : Nat} {l : List Int} (h : Sl k w (.slice a m cap) l) {j : Nat} {z : Int} (hj : l[j]? = some z) : ∃ g off, a = some ⟨g, off, none⟩ ∧ w.cell? ⟨g, off + j, none⟩ = some (.int k z) := by
  obtain ⟨a', cap', hv, _, hr⟩ := h
  injection hv with h1 h2 h3
  subst h1
  exact hr j z hj
/-- 'v[q:]', 'v[q:k]'. -/
noncomputable def backR (x lo : Value) : Sem Value := Instr.slice 56 x (some lo) none none
theorem slice_backR (x lo : Value) : Instr.slice 56 x (some lo) none none = backR x lo := rfl
noncomputable def midR (x lo hi : Value) : Sem Value := Instr.slice 56 x (some lo) (some hi) none
theorem slice_midR (x lo hi : Value) : Instr.slice 56 x (some lo) (some hi) none = midR x lo hi := rfl
theorem backR_run {w : World} {v : Value} {l : List Int} (h : Sl .i32 w v l) (q : Nat) (hq : q ≤ l.length) :
    ∃ u, (∀ W : World, (backR v (.int .i64 (q : Int))).run Try.prog W = .ok u W) ∧ Sl .i32 w u (l.drop q) := by
  obtain ⟨i0, hi, hz0, hz1, hz2⟩ := info_parts infoRz
  obtain ⟨a, cap, rfl, hc, hr⟩ := h
  refine ⟨.slice (if cap = q then a else a.map (·.add q)) (l.length - q) (cap - q), fun W => ?_, ?_⟩
  · have h1 : q ≤ cap := by omega
    unfold backR
    simp [Instr.slice, Instr.sliceBounds, Instr.sliceBound, asIntOf, run_underlying Try.underlying56, h1, hq, sizeOf, typeInfo, hi, hz1]
  · have hl : (l.drop q).length = l.length - q := by rw [List.length_drop]
    refine ⟨_, _, by rw [hl], by rw [hl]; omega, fun j x hj => ?_⟩
    have hj1 : j < l.length - q := by
      have := (List.getElem?_eq_some_iff.1 hj).1
      omega
    rw [List.getElem?_drop] at hj
    obtain ⟨g, off, rfl, h0⟩ := hr (q + j) x hj
    rw [if_neg (by omega)]
    refine ⟨g, off + q, ?_, ?_⟩
    · simp only [Option.map_some, Option.some.injEq]
      rw [Addr.add_lit]
    · rw [show off + q + j = off + (q + j) by omega]
      exact h0
theorem midR_run {w : World} {v : Value} {l : List Int} (h : Sl .i32 w v l) (q k : Nat) (hq : q ≤ k) (hk : k ≤ l.length) :
    ∃ u, (∀ W : World, (midR v (.int .i64 (q : Int)) (.int .i64 (k : Int))).run Try.prog W = .ok u W) ∧ Sl .i32 w u ((l.take k).drop q) := by
  obtain ⟨i0, hi, hz0, hz1, hz2⟩ := info_parts infoRz
  obtain ⟨a, cap, rfl, hc, hr⟩ := h
  refine ⟨.slice (if cap = q then a else a.map (·.add q)) (k - q) (cap - q), fun W => ?_, ?_⟩
  · have h1 : k ≤ cap := by omega
    unfold midR
    simp [Instr.slice, Instr.sliceBounds, Instr.sliceBound, asIntOf, run_underlying Try.underlying56, h1, hq, sizeOf, typeInfo, hi, hz1]
  · have hl : ((l.take k).drop q).length = k - q := by rw [List.length_drop, List.length_take]; omega
    refine ⟨_, _, by rw [hl], by rw [hl]; omega, fun j x hj => ?_⟩
    have hj1 : j < k - q := by
      have := (List.getElem?_eq_some_iff.1 hj).1
      omega
    rw [List.getElem?_drop, List.getElem?_take_of_lt (by omega)] at hj
    obtain ⟨g, off, rfl, h0⟩ := hr (q + j) x hj
    rw [if_neg (by omega)]
    refine ⟨g, off + q, ?_, ?_⟩
    · simp only [Option.map_some, Option.some.injEq]
      rw [Addr.add_lit]
    · rw [show off + q + j = off + (q + j) by omega]
      exact h0

/-- Where it stands, or below nothing. -/
def ixI (p : Nat) (o : Option Nat) : Int := match o with
  | some k => (k + p : Nat)
  | none => -1
theorem ix_cons (c : Int) (r : List Int) : ix (c :: r) = if c = 93 then some 0 else (ix r).map (· + 1) := rfl
theorem ix_hit {l : List Int} {j : Nat} (h : l[j]? = some 93) : ix (l.drop j) = some 0 := by rw [drop_cons h, ix_cons, if_pos rfl]
theorem ix_miss {l : List Int} {j : Nat} {z : Int} (h : l[j]? = some z) (hz : z ≠ 93) : ix (l.drop j) = (ix (l.drop (j + 1))).map (· + 1) := by rw [drop_cons h, ix_cons, if_neg hz]
theorem ixI_miss (p : Nat) (o : Option Nat) : ixI p (o.map (· + 1)) = ixI (p + 1) o := by
  cases o with
  | none => rfl
  | some k => simp only [ixI, Option.map_some]; omega

set_option maxHeartbeats 1000000 in
theorem index_any (l : List Int) (v : Value) (w : World) (hv : Sl .i32 w v l) (hl : l.length ≤ 200000) :
    Calls Try.prog 54 #[v, .int .i32 93] w fun e w' => e = .returned (.int .i64 (ixI 0 (ix l))) ∧ w = w' := by
  have HV := Lib.hid hv
  obtain ⟨a, cap, rfl⟩ := hv.len
  obtain ⟨X, hX⟩ : ∃ X, ixI 0 (ix l) = X := ⟨_, rfl⟩
  rw [hX]
  clear hv
  go_enter Try.func54, Try.ntmps54
  go_wp2_with fail
  go_loopw [8] (fun i wr => ∃ j : Nat, j ≤ l.length ∧ i = .int .i64 j ∧ wr = w ∧ ixI j (ix (l.drop j)) = X) (fun i _ => l.length - (intOf i).toNat)
  case atStart => exact ⟨0, by omega, rfl, rfl, by simpa using hX⟩
  case round =>
    obtain ⟨j, hj, rfl, rfl, hx⟩ := hrel
    have HX := Lib.hid hx
    clear hx hX
    by_cases hlt : j < l.length
    · obtain ⟨z, hz⟩ : ∃ z, l[j]? = some z := ⟨l[j], List.getElem?_eq_getElem hlt⟩
      obtain ⟨g, off, rfl, c0⟩ := HV.out.at hz
      have hi0 : (j : Int) < (l.length : Int) := by omega
      have hi1 : (0 : Int) ≤ (j : Int) := by omega
      by_cases he : z = 93
      · subst he
        have hres := Lib.hid (show (j : Int) = X by
          have := HX.out
          rw [ix_hit hz] at this
          simpa [ixI] using this)
        clear hz
        go_wp2_with fail
        go_ret
        exact ⟨ret_int hres.out, rfl⟩
      · have hres := Lib.hid (show ixI (j + 1) (ix (l.drop (j + 1))) = X by
          have := HX.out
          rw [ix_miss hz he, ixI_miss] at this
          exact this)
        have he' : ((93 : Int) == z) = false := by simpa using fun h : (93 : Int) = z => he h.symm
        clear hz he
        go_wp2_with fail
        go_roundw
        case rel => exact ⟨j + 1, by omega, by go_num, by first | trivial | rfl, hres.out⟩
        case measure => simp [intOf]; omega
    · obtain rfl : j = l.length := by omega
      have hres := Lib.hid (show (-1 : Int) = X by
        have := HX.out
        rw [List.drop_length] at this
        simpa [ixI, ix] using this)
      go_wp2_with fail
      go_ret
      exact ⟨ret_int hres.out, rfl⟩
end Go.Proofs.Ytgfmpndojjopnaa
