/- What a reader tells of a font; of an escape. -/
import Derived.Test.YtgfmpndojjopnaaE9
namespace Go.Proofs.Ytgfmpndojjopnaa
open Go.RowKit

attribute [local go_sem ↓ high] builtin_appT builtin_appDg
section
variable {w0 : World} {B : Nat} {tv : Value} {L : List Int} {nx : Int} {T : List Tok} {D : List Dg}
set_option maxRecDepth 100000 in
set_option maxHeartbeats 1000000 in
theorem rfont_none (p : Nat) (w : World) (h : Rd w0 B tv L w nx T D) (hp : p + 2 ≤ L.length) (hL : L.length ≤ 20000) (hD : D.length ≤ 20000) (hn : nameL (L.drop (p + 2)) = none) :
    Calls Try.prog 38 #[.pointer (some ⟨B, 0, none⟩), .int .i64 (p : Int)] w (RdEnd w0 B tv L nx T (D ++ dgs p [1]) (.bool false)) := by
  have HN := Lib.hid (rname_none (p + 2) w h hp (by omega) hn)
  have HN' : Hid (Calls Try.prog 44 #[.pointer (some ⟨B, 0, none⟩), .int .i64 ((p : Int) + 2)] w (RdEnd w0 B tv L nx T D (.tuple #[.string ⟨#[]⟩, .bool false]))) := HN
  have HW := Lib.hid (fun W (h : Rd w0 B tv L W nx T D) => wrong_any 1 p W h (by omega) (by omega))
  have hp9 : (p : Int) ≤ 20000 := by omega
  clear h hn HN
  go_enter Try.func38, Try.ntmps38
  go_wp2_with fail
  refine HN'.out.mono ?_
  rintro e w1 ⟨rfl, h1⟩
  have HW' := Lib.hid (HW.out w1 h1)
  clear HN' HW h1
  go_wp2_with fail
  refine HW'.out.mono ?_
  rintro e w2 ⟨rfl, h2⟩
  have H2 := Lib.hid h2
  clear HW' h2
  go_wp2_with fail
  go_ret
  exact ⟨rfl, H2.out⟩

set_option maxRecDepth 100000 in
set_option maxHeartbeats 2000000 in
theorem rfont_some (p : Nat) (w : World) (h : Rd w0 B tv L w nx T D) (hp : p + 2 ≤ L.length) (hL : L.length ≤ 20000) (hT : T.length ≤ 20000) (hD : D.length ≤ 20000) {n : List Int} {k : Nat} (hn : nameL (L.drop (p + 2)) = some (n, k))
    {t : List Tok} {d : List Int} (hr : (∃ x, ftOf (enc n) = some x ∧ t = [(3, x)] ∧ d = []) ∨ (ftOf (enc n) = none ∧ t = [] ∧ d = [2])) :
    Calls Try.prog 38 #[.pointer (some ⟨B, 0, none⟩), .int .i64 (p : Int)] w (RdEnd w0 B tv L ((p + 2 + k : Nat) : Int) (T ++ t) (D ++ dgs p d) (.bool true)) := by
  have HN := Lib.hid (rname_some (p + 2) w h hp (by omega) hn)
  have HN' : Hid (Calls Try.prog 44 #[.pointer (some ⟨B, 0, none⟩), .int .i64 ((p : Int) + 2)] w (RdEnd w0 B tv L ((p + 2 + k : Nat) : Int) T D (.tuple #[.string ⟨(enc n).toArray⟩, .bool true]))) := HN
  obtain ⟨b, hb⟩ : ∃ b, enc n = b := ⟨_, rfl⟩
  rw [hb] at HN' hr
  obtain ⟨nx', hnx⟩ : ∃ nx', ((p + 2 + k : Nat) : Int) = nx' := ⟨_, rfl⟩
  rw [hnx] at HN' ⊢
  have HF := Lib.hid (fun W => font_any b W)
  have HW := Lib.hid (fun W (h : Rd w0 B tv L W nx' T D) => wrong_any 2 p W h (by omega) (by omega))
  have hp9 : (p : Int) ≤ 20000 := by omega
  clear h hn HN hb hnx
  go_enter Try.func38, Try.ntmps38
  go_wp2_with fail
  refine HN'.out.mono ?_
  rintro e w1 ⟨rfl, h1⟩
  have H1 := Lib.hid h1
  have HF1 := Lib.hid (HF.out w1)
  clear HN' HF h1
  go_wp2_with fail
  refine HF1.out.mono ?_
  rintro e w2 ⟨rfl, rfl⟩
  clear HF1
  rcases hr with ⟨x, hx, rfl, rfl⟩ | ⟨hx, rfl, rfl⟩
  · obtain ⟨vt, vd, vm, hv⟩ := H1.out
    have c2 : w1.cell? ⟨B, 2, none⟩ = some vt := hv.blk.cell 2
    obtain ⟨vt', w3, k3, q3, f3, r3⟩ := hv.say 3 x (by omega)
    obtain ⟨a1, n1, rfl⟩ := (FOwn.sl tcell_len hv.tk).len
    obtain ⟨a2, n2, rfl⟩ := (FOwn.sl tcell_len r3.tk).len
    obtain ⟨m, hm⟩ : ∃ m, (T ++ [(3, x)]).length = m := ⟨_, rfl⟩
    rw [hm] at k3 r3
    have R3 := Lib.hid r3
    rw [hx]
    simp only [Option.getD_some, Option.isSome_some]
    clear HW H1 hx hv hm r3
    go_wp2_with fail
    go_ret
    exact ⟨rfl, _, _, _, by simpa [dgs] using R3.out⟩
  · have HW4 := Lib.hid (HW.out w1 H1.out)
    rw [hx]
    simp only [Option.getD_none, Option.isSome_none]
    clear HW H1 hx
    go_wp2_with fail
    refine HW4.out.mono ?_
    rintro e w5 ⟨rfl, h5⟩
    have H5 := Lib.hid h5
    clear HW4 h5
    go_wp2_with fail
    go_ret
    exact ⟨rfl, by rw [List.append_nil]; exact H5.out⟩
end
end Go.Proofs.Ytgfmpndojjopnaa
