/- What the chapter's example fixes, holds. -/
import Derived.Test.YteckiifnldcjbaaDoorKG
import Derived.Test.YteckiifnldcjbaaDoorKH
namespace Go.Proofs.YteckiifnldcjbaaDoor
open Go.RowKit
attribute [local go_sem ↓ high] binop_eqlS binop_neqS

theorem read_known : readL [46, 66, 32, 34, 97, 32, 98, 34, 32, 99, 10] = ([(1, [66], [[97, 32, 98], [99]], [])], []) := by kernel_rfl
theorem qt_known : qt [120] = [34, 120, 34] := by decide

/-- One row, laid out: a macro's, with its arguments. -/
theorem rws_one {w : World} (q : Int) (m t : List UInt8) (A : List (List UInt8)) (a : Option Addr) (c : Nat) (h : Ss w (.slice a A.length c) A) :
    Rws (w.alloc (.cells #[.int .i64 q, .string ⟨m.toArray⟩, .slice a A.length c, .string ⟨t.toArray⟩] 34)) (.slice (some ⟨w.heap.size, 0, none⟩) 1 1) [(q, m, A, t)] := by
  refine ⟨[(q, m, (a, A.length, c), t)], fs_lit rcell_len w 34 [(q, m, (a, A.length, c), t)], rfl, fun j x y h1 h2 => ?_⟩
  have hj : j = 0 := by
    have := (List.getElem?_eq_some_iff.1 h1).1
    simp at this
    omega
  subst hj
  simp at h1 h2
  subst h1 h2
  exact ⟨rfl, rfl, rfl, h.below ((Below.refl _ _).alloc (Nat.le_refl _) _)⟩

set_option maxRecDepth 100000 in
set_option maxHeartbeats 4000000 in
theorem known_any (w : World) (hM : Mx w) : Calls Tryd.prog 11 #[] w fun e w' => e = .returned (.bool true) ∧ Below w.heap.size w w' := by
  have R1 := Lib.hid (read_all [46, 66, 32, 34, 97, 32, 98, 34, 32, 99, 10] w hM (by decide))
  rw [read_known] at R1
  have HM := Lib.hid (fun W (h : Below w.heap.size w W) => hM.below (Nat.le_refl _) h)
  clear hM
  go_enter Tryd.func11, Tryd.ntmps11
  go_wp2_with fail
  refine R1.out.mono ?_
  rintro e W1 ⟨vr, vd, rfl, r1, d1, b1, z1⟩
  obtain ⟨ra, rc, rfl⟩ := r1.len
  obtain ⟨da, dc, rfl⟩ := (FOwn.sl dcell_len d1).len
  have HR := Lib.hid r1.sl
  have B1 := Lib.hid b1
  clear r1 d1 R1
  have s1 := fs_lit scell_len W1 9 [[97, 32, 98], [99]]
  have r2 := rws_one (w := W1.alloc (.cells (flatV scell [[97, 32, 98], [99]]).toArray 9)) 1 [66] [] [[97, 32, 98], [99]] _ _ s1
  have bl : Below W1.heap.size W1 ((W1.alloc (.cells (flatV scell [[97, 32, 98], [99]]).toArray 9)).alloc (.cells #[.int .i64 1, .string ⟨([66] : List UInt8).toArray⟩, .slice (some ⟨W1.heap.size, 0, none⟩) 2 2, .string ⟨([] : List UInt8).toArray⟩] 34)) := below_two _ _ _
  rw [World.size_alloc] at r2
  have C1 : Hid (Calls Tryd.prog 24 #[.slice ra 1 rc, .slice (some ⟨W1.heap.size + 1, 0, none⟩) 1 1] ((W1.alloc (.cells #[.string ⟨#[97, 32, 98]⟩, .string ⟨#[99]⟩] 9)).alloc (.cells #[.int .i64 1, .string ⟨#[66]⟩, .slice (some ⟨W1.heap.size, 0, none⟩) 2 2, .string ⟨#[]⟩] 34)) fun e w' => e = .returned (.bool true) ∧ Below W1.heap.size W1 w') := Lib.hid (by
    have h := sameR_any _ _ _ _ _ (HR.out.below bl) r2 (by decide) (by decide) (by decide) (by decide)
    rw [decide_eq_true rfl] at h
    exact h.mono fun e w' ⟨h1, m, h2⟩ => ⟨h1, h2 ▸ below_drewN bl m⟩)
  clear s1 r2 bl
  have Q1 : Hid (∀ W, Below W1.heap.size W1 W → Calls Tryd.prog 15 #[.string ⟨#[120]⟩] W fun e w' => e = .returned (.string ⟨#[34, 120, 34]⟩) ∧ Below W.heap.size W w') := Lib.hid fun W hb => by
    have h := quoted_any [120] W (HM.out _ (B1.out.trans (hb.mono z1))) (by decide)
    rw [qt_known] at h
    exact h
  have E1 : ∀ W, (eqlS (.string ⟨#[34, 120, 34]⟩) (.string ⟨#[34, 120, 34]⟩)).run Tryd.prog W = .ok (.bool true) W := by
    intro W
    have h := eqlS_run [34, 120, 34] [34, 120, 34] W
    rw [decide_eq_true rfl] at h
    exact h
  clear b1
  go_wp2_with fail
  refine C1.out.mono ?_
  rintro e W2 ⟨rfl, b2⟩
  have B2 := Lib.hid b2
  clear C1 b2
  go_wp2_with fail
  refine (Q1.out _ B2.out).mono ?_
  rintro e W3 ⟨rfl, b3⟩
  have B3 : Hid (Below w.heap.size w W3) := Lib.hid ((B1.out.trans (B2.out.mono z1)).trans (b3.mono (by have := B2.out.size; omega)))
  clear Q1 b3
  go_wp2_with fail
  go_ret
  exact ⟨rfl, B3.out⟩
end Go.Proofs.YteckiifnldcjbaaDoor
