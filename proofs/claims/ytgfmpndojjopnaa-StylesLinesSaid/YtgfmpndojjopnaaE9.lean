/- What a reader tells of a named rune, of a font. -/
import Derived.Test.YtgfmpndojjopnaaE8
namespace Go.Proofs.Ytgfmpndojjopnaa
open Go.RowKit

section
variable {w0 : World} {B : Nat} {tv : Value} {L : List Int} {nx : Int} {T : List Tok} {D : List Dg}
set_option maxRecDepth 100000 in
set_option maxHeartbeats 1000000 in
theorem named_none (p : Nat) (w : World) (h : Rd w0 B tv L w nx T D) (hp : p + 1 ≤ L.length) (hL : L.length ≤ 20000) (hD : D.length ≤ 20000) (hn : nameL (L.drop (p + 1)) = none) :
    Calls Try.prog 37 #[.pointer (some ⟨B, 0, none⟩), .int .i64 (p : Int)] w (RdEnd w0 B tv L nx T (D ++ dgs p [1]) (.bool false)) := by
  have HN := Lib.hid (rname_none (p + 1) w h hp (by omega) hn)
  have HN' : Hid (Calls Try.prog 44 #[.pointer (some ⟨B, 0, none⟩), .int .i64 ((p : Int) + 1)] w (RdEnd w0 B tv L nx T D (.tuple #[.string ⟨#[]⟩, .bool false]))) := HN
  have HW := Lib.hid (fun W (h : Rd w0 B tv L W nx T D) => wrong_any 1 p W h (by omega) (by omega))
  have hp9 : (p : Int) ≤ 20000 := by omega
  clear h hn HN
  go_enter Try.func37, Try.ntmps37
  go_wp2_with fail
  refine HN'.out.mono ?_
  rintro e w1 ⟨rfl, h1⟩
  have HW' := Lib.hid (HW.out w1 h1)
  clear HN' HW h1
  go_wp2_with fail
  refine HW'.out.mono ?_
  rintro e w2 ⟨rfl, h2⟩
  have H2 := Lib.hid h2
  clear HW' h2
  go_wp2_with fail
  go_ret
  exact ⟨rfl, H2.out⟩

/-- The map is there: it was, or it is made now. -/
def WithMap (w0 : World) (B : Nat) (tv : Value) (L : List Int) (nx : Int) (T : List Tok) (D : List Dg) (M : Nat) (w : World) : Prop := ∃ vt vd, RdV w0 B tv L w nx T D vt vd (.map (some M))

set_option maxRecDepth 100000 in
set_option maxHeartbeats 2000000 in
theorem named_some (p : Nat) (w : World) (h : Rd w0 B tv L w nx T D) (hp : p + 1 ≤ L.length) (hL : L.length ≤ 20000) (hT : T.length ≤ 20000) (hD : D.length ≤ 20000) {n : List Int} {k : Nat} (hn : nameL (L.drop (p + 1)) = some (n, k))
    {t : List Tok} {d : List Int} (hr : (∃ x, nmOf (enc n) = some x ∧ t = [(1, x)] ∧ d = []) ∨ (nmOf (enc n) = none ∧ t = [] ∧ d = [2])) :
    Calls Try.prog 37 #[.pointer (some ⟨B, 0, none⟩), .int .i64 (p : Int)] w (RdEnd w0 B tv L ((p + 1 + k : Nat) : Int) (T ++ t) (D ++ dgs p d) (.bool true)) := by
  have HN := Lib.hid (rname_some (p + 1) w h hp (by omega) hn)
  have HN' : Hid (Calls Try.prog 44 #[.pointer (some ⟨B, 0, none⟩), .int .i64 ((p : Int) + 1)] w (RdEnd w0 B tv L ((p + 1 + k : Nat) : Int) T D (.tuple #[.string ⟨(enc n).toArray⟩, .bool true]))) := HN
  have hnl := nameL_some_len hn
  rw [List.length_drop] at hnl
  have hel := enc_len n
  obtain ⟨b, hb⟩ : ∃ b, enc n = b := ⟨_, rfl⟩
  rw [hb] at HN' hr hel
  obtain ⟨nx', hnx⟩ : ∃ nx', ((p + 1 + k : Nat) : Int) = nx' := ⟨_, rfl⟩
  rw [hnx] at HN' ⊢
  have HF := Lib.hid (fun M W (h : Nms W M) => find_any b M W h (by unfold maxLen; omega))
  have HS := Lib.hid (fun W => names_any W)
  have HW := Lib.hid (fun W (h : Rd w0 B tv L W nx' T D) => wrong_any 2 p W h (by omega) (by omega))
  have HC := Lib.hid (fun c W (h : Rd w0 B tv L W nx' T D) => char_any c W h (by omega))
  have hp9 : (p : Int) ≤ 20000 := by omega
  clear h hn HN hb hnx hnl
  go_enter Try.func37, Try.ntmps37
  go_wp2_with fail
  refine HN'.out.mono ?_
  rintro e w1 ⟨rfl, vt, vd, vm, hv⟩
  clear HN'
  have c4 : w1.cell? ⟨B, 4, none⟩ = some vm := hv.blk.cell 4
  have HV := Lib.hid hv
  have hvm := hv.mp
  clear hv
  rcases hvm with rfl | ⟨M, rfl, hBM, hM⟩
  · have hq : (binOp .eql 59 (.map none) (.map none)).run Try.prog w1 = .ok (.bool true) w1 := run_eql_map_nil w1 59 9 21 none Try.underlying59
    have HS1 := Lib.hid (HS.out w1)
    clear HS
    go_wp2_with fail
    refine HS1.out.mono ?_
    rintro e w2 ⟨M, rfl, hM, hm, b2⟩
    have hv2 := HV.out.keep b2
    have hlt := HV.out.lt
    have c42 : w2.cell? ⟨B, 4, none⟩ = some (.map none) := hv2.blk.cell 4
    have f42 : w2.frozen? ⟨B, 4, none⟩ = false := hv2.blk.frozen (by simp)
    have HV3 := Lib.hid (hv2.names (M := M) (by omega) hm)
    obtain ⟨W3, hW3⟩ : ∃ W3, w2.setCell ⟨B, 4, none⟩ (.map (some M)) = W3 := ⟨_, rfl⟩
    rw [hW3] at HV3
    have c43 : W3.cell? ⟨B, 4, none⟩ = some (.map (some M)) := HV3.out.blk.cell 4
    have hM3 : Nms W3 M := by
      rcases HV3.out.mp with h0 | ⟨M', h0, _, h1⟩
      · cases h0
      · cases h0; exact h1
    have HF3 := Lib.hid (HF.out M W3 hM3)
    have HW3 := Lib.hid hW3
    have HR3 : Hid (Rd w0 B tv L W3 nx' T D) := Lib.hid ⟨_, _, _, HV3.out⟩
    clear HS1 hm b2 hv2 hM hlt HF HV c4 hq hM3 hW3 HV3
    go_wp2_with fail
    rw [HW3.out]
    refine HF3.out.mono ?_
    rintro e w4 ⟨rfl, b4⟩
    have H4 : Hid (Rd w0 B tv L w4 nx' T D) := Lib.hid (by
      obtain ⟨_, _, _, h⟩ := HR3.out
      exact ⟨_, _, _, h.keep b4⟩)
    clear HF3 HR3 HW3 c43 c42 f42 b4
    rcases hr with ⟨x, hx, rfl, rfl⟩ | ⟨hx, rfl, rfl⟩
    · have HC4 := Lib.hid (HC.out x w4 H4.out)
      rw [hx]
      simp only [Option.getD_some, Option.isSome_some]
      clear HC HW H4 hx
      go_wp2_with fail
      refine HC4.out.mono ?_
      rintro e w5 ⟨rfl, h5⟩
      have H5 := Lib.hid h5
      clear HC4 h5
      go_wp2_with fail
      go_ret
      exact ⟨rfl, by simpa [dgs] using H5.out⟩
    · have HW4 := Lib.hid (HW.out w4 H4.out)
      rw [hx]
      simp only [Option.getD_none, Option.isSome_none]
      clear HC HW H4 hx
      go_wp2_with fail
      refine HW4.out.mono ?_
      rintro e w5 ⟨rfl, h5⟩
      have H5 := Lib.hid h5
      clear HW4 h5
      go_wp2_with fail
      go_ret
      exact ⟨rfl, by rw [List.append_nil]; exact H5.out⟩
  · have hq : (binOp .eql 59 (.map (some M)) (.map none)).run Try.prog w1 = .ok (.bool false) w1 := run_eql_map_nil w1 59 9 21 (some M) Try.underlying59
    have HF3 := Lib.hid (HF.out M w1 hM)
    have HR3 : Hid (Rd w0 B tv L w1 nx' T D) := Lib.hid ⟨_, _, _, HV.out⟩
    clear HS HF HV hM hBM
    go_wp2_with fail
    refine HF3.out.mono ?_
    rintro e w4 ⟨rfl, b4⟩
    have H4 : Hid (Rd w0 B tv L w4 nx' T D) := Lib.hid (by
      obtain ⟨_, _, _, h⟩ := HR3.out
      exact ⟨_, _, _, h.keep b4⟩)
    clear HF3 HR3 c4 hq b4
    rcases hr with ⟨x, hx, rfl, rfl⟩ | ⟨hx, rfl, rfl⟩
    · have HC4 := Lib.hid (HC.out x w4 H4.out)
      rw [hx]
      simp only [Option.getD_some, Option.isSome_some]
      clear HC HW H4 hx
      go_wp2_with fail
      refine HC4.out.mono ?_
      rintro e w5 ⟨rfl, h5⟩
      have H5 := Lib.hid h5
      clear HC4 h5
      go_wp2_with fail
      go_ret
      exact ⟨rfl, by simpa [dgs] using H5.out⟩
    · have HW4 := Lib.hid (HW.out w4 H4.out)
      rw [hx]
      simp only [Option.getD_none, Option.isSome_none]
      clear HC HW H4 hx
      go_wp2_with fail
      refine HW4.out.mono ?_
      rintro e w5 ⟨rfl, h5⟩
      have H5 := Lib.hid h5
      clear HW4 h5
      go_wp2_with fail
      go_ret
      exact ⟨rfl, by rw [List.append_nil]; exact H5.out⟩
end
end Go.Proofs.Ytgfmpndojjopnaa
