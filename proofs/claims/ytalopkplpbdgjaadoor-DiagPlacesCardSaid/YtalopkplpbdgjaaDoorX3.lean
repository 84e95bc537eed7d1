/- Contracts of Kind and Place; known() returns true where the listed variable holds its type. -/
import Derived.Test.YtalopkplpbdgjaaDoorX2
import Derived.Deep.QuietTactic
import Derived.BigQuiet
namespace Go.Proofs.YtalopkplpbdgjaaDoor
open Go.RowKit Go.Shelf Go.Extern.Stop Go.Stop Go.Extern

theorem first_any (w : World) (n : Nat) (hn : n ≤ 1000) (hE : ErrType w) (t : TypeId) (v : Value) (k l c : Int) (rest : List D) (hv : Er w n (.iface t v) ((k, l, c) :: rest)) :
    Calls Tryd.prog 28 #[.iface t v] w fun e W' => e = .returned (.agg #[.int .i64 k, .int .i64 l, .int .i64 c]) ∧ Below w.heap.size w W' :=
  callsIn_wide.1 (first_in w n hn hE t v _ hv k l c rest rfl)

theorem field29_0 (k l c : Int) (w : World) : (Instr.field 29 (.agg #[.int .i64 k, .int .i64 l, .int .i64 c]) 0).run Tryd.prog w = .ok (.int .i64 k) w := by kernel_rfl

set_option maxRecDepth 100000 in
set_option maxHeartbeats 1000000 in
theorem kind_any (w : World) (n : Nat) (hn : n ≤ 1000) (hE : ErrType w) (t : TypeId) (v : Value) (k l c : Int) (rest : List D) (hv : Er w n (.iface t v) ((k, l, c) :: rest)) :
    Calls Tryd.prog 15 #[.iface t v] w fun e W' => e = .returned (.int .i64 k) ∧ Below w.heap.size w W' := by
  have hF := first_any w n hn hE t v k l c rest hv
  clear hn hE hv
  have hf := field29_0
  go_enter Tryd.func15, Tryd.ntmps15
  go_wp2_with (go_at_call 28; refine hF.mono ?_; clear hF; rintro e w1 ⟨rfl, hb⟩)
  go_ret
  exact ⟨rfl, hb⟩

set_option maxRecDepth 100000 in
set_option maxHeartbeats 1000000 in
theorem place_any (w : World) (n : Nat) (hn : n ≤ 1000) (hE : ErrType w) (t : TypeId) (v : Value) (k l c : Int) (rest : List D) (hv : Er w n (.iface t v) ((k, l, c) :: rest)) :
    Calls Tryd.prog 12 #[.iface t v] w fun e W' => e = .returned (.tuple #[.int .i64 l, .int .i64 c]) ∧ Below w.heap.size w W' := by
  have hF := first_any w n hn hE t v k l c rest hv
  clear hn hE hv
  go_enter Tryd.func12, Tryd.ntmps12
  go_wp2_with (go_at_call 28; refine hF.mono ?_; clear hF; rintro e w1 ⟨rfl, hb⟩)
  go_quiet (fail)
  go_wp2
  go_ret2
  exact ⟨rfl, below_drewN (hb.alloc hb.size _) _⟩

theorem er_new (w : World) (k l c : Int) (hk : k ≠ 0) : Er (w.alloc (.cells #[.int .i64 k, .int .i64 (clip l), .int .i64 (clip c)] 69)) 1 (.iface 62 (.pointer (some ⟨w.heap.size, 0, none⟩))) [(k, clip l, clip c)] := by
  unfold Er
  refine .inl ⟨w.heap.size, k, clip l, clip c, rfl, by simp, by simp, by simp, hk, ?_, rfl⟩
  simp only [inPlace, clip]
  omega

theorem er_move {w : World} {n : Nat} {t : TypeId} {v : Value} {ds : List D} (h : Er w n (.iface t v) ds) (ls cs : Int) : Er (w.alloc (.cells #[.iface t v, .int .i64 ls, .int .i64 cs] 77)) (n + 1) (.iface 75 (.pointer (some ⟨w.heap.size, 0, none⟩))) (ds.map (mv ls cs)) := by
  unfold Er
  exact .inr (.inl ⟨w.heap.size, t, v, ls, cs, ds, rfl, by simp, by simp, by simp, h.below ((Below.refl _ _).alloc (Nat.le_refl _) _), rfl⟩)

theorem new_er (k l c : Int) (w : World) (hk : k ≠ 0) : Calls Tryd.prog 24 #[.int .i64 k, .int .i64 l, .int .i64 c] w fun e w' => ∃ v, e = .returned (.iface 62 v) ∧ Er w' 1 (.iface 62 v) [(k, clip l, clip c)] ∧ Below w.heap.size w w' :=
  (new_pos k l c w (by simpa using hk)).mono fun e w' ⟨he, hw⟩ => ⟨_, he, by rw [← hw]; exact er_new w k l c hk, by rw [← hw]; exact (Below.refl _ w).alloc (Nat.le_refl _) _⟩
theorem move_er {w : World} {n : Nat} {t : TypeId} {v : Value} {ds : List D} (h : Er w n (.iface t v) ds) (ls cs : Int) : Calls Tryd.prog 21 #[.iface t v, .int .i64 ls, .int .i64 cs] w fun e w' => ∃ v', e = .returned (.iface 75 v') ∧ Er w' (n + 1) (.iface 75 v') (ds.map (mv ls cs)) ∧ Below w.heap.size w w' :=
  (move_any t v ls cs w).mono fun e w' ⟨he, hw⟩ => ⟨_, he, by rw [← hw]; exact er_move h ls cs, by rw [← hw]; exact (Below.refl _ w).alloc (Nat.le_refl _) _⟩

set_option maxRecDepth 100000 in
set_option maxHeartbeats 1000000 in
/-- 'known()' is true. -/
theorem known_any (w : World) (hE : ErrType w) : Calls Tryd.prog 9 #[] w fun e W' => e = .returned (.bool true) ∧ Below w.heap.size w W' := by
  have HE := Lib.hid hE
  clear hE
  have c3 : ∀ w, Calls Tryd.prog 23 #[.int .i64 (-3)] w fun e w' => e = .returned (.int .i64 0) ∧ w = w' := fun w => (clip_any (-3) w).mono fun e w' ⟨he, hw⟩ => ⟨by rw [he]; rfl, hw⟩
  have HC := Lib.hid c3
  clear c3
  have hds : [((7 : Int), clip 3, clip 4)].map (mv 2 0) = [(7, 5, 4)] := by decide
  have HD := Lib.hid hds
  clear hds
  go_enter Tryd.func9, Tryd.ntmps9
  go_wp2_with fail
  refine (new_er 7 3 4 _ (by decide)).mono ?_
  rintro e w1 ⟨v1, rfl, h1, b1⟩
  go_wp2_with fail
  refine (move_er h1 2 0).mono ?_
  rintro e w2 ⟨v2, rfl, h2, b2⟩
  rw [HD.out] at h2
  have B2 := b1.trans (b2.mono b1.size)
  go_wp2_with fail
  refine (place_any _ _ (by decide) (errType_below HE.out B2) _ _ 7 5 4 [] h2).mono ?_
  rintro e w3 ⟨rfl, b3⟩
  have B3 := B2.trans (b3.mono B2.size)
  go_wp2_with fail
  refine (kind_any _ _ (by decide) (errType_below HE.out B3) _ _ 7 5 4 [] (h2.below b3)).mono ?_
  rintro e w4 ⟨rfl, b4⟩
  have B4 := B3.trans (b4.mono B3.size)
  go_wp2_with fail
  refine (new_zero _ _ _).mono ?_
  rintro e w' ⟨rfl, rfl⟩
  go_wp2_with fail
  refine (HC.out _).mono ?_
  rintro e w' ⟨rfl, rfl⟩
  go_wp2_with fail
  go_ret
  exact ⟨rfl, B4⟩
end Go.Proofs.YtalopkplpbdgjaaDoor
