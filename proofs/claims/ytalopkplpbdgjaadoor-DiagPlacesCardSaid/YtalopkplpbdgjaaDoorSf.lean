/- slices.Clone, SortStableFunc and diag.Sorted. -/
import Derived.Test.YtalopkplpbdgjaaDoorSe
namespace Go.Proofs.YtalopkplpbdgjaaDoor
open Go.RowKit Go.Shelf Go.Extern.Stop Go.Stop Go.Extern

attribute [local go_sem ↓ high] builtin_app30

/-- A row of the call's own that holds ds. -/
def OwnD (base : Nat) (W : World) (v : Value) (ds : List D) : Prop := W.ownsRow base 29 3 v ds.length (dcells ds)
theorem OwnD.sd {base : Nat} {W : World} {v : Value} {ds : List D} (h : OwnD base W v ds) : SDiag W v ds := SDiag.of_owns h
theorem OwnD.below {base : Nat} {W W1 : World} {v : Value} {ds : List D} (h : OwnD base W v ds) (hb : Below W.heap.size W W1) : OwnD base W1 v ds := owns_below h hb
theorem OwnD.nil (base : Nat) (W : World) : OwnD base W (.slice none 0 0) [] := World.ownsRow_nil _ _ _ _
theorem OwnD.forms {base : Nat} {W : World} {v : Value} {ds : List D} (h : OwnD base W v ds) : (v = .slice none 0 0 ∧ ds = []) ∨ ∃ g cap, v = .slice (some ⟨g, 0, none⟩) ds.length cap ∧ Rw base g ds.length cap W ds := by
  have h' := h
  rcases h.2 with ⟨rfl, h0⟩ | ⟨g, cap, cur, rfl, hh⟩
  · exact .inl ⟨rfl, List.length_eq_zero_iff.1 h0⟩
  · exact .inr ⟨g, cap, rfl, rfl, h'⟩
theorem Rw.own {base g n cap : Nat} {W : World} {ds : List D} (h : Rw base g n cap W ds) : OwnD base W (.slice (some ⟨g, 0, none⟩) n cap) ds := by
  obtain ⟨rfl, h2⟩ := h
  exact h2
theorem ownD_lit (w : World) : OwnD w.heap.size (w.alloc (.cells #[] 29)) (.slice (some ⟨w.heap.size, 0, none⟩) 0 0) [] :=
  ⟨rfl, .inr ⟨w.heap.size, 0, #[], rfl, Nat.le_refl _, heap_alloc_new w _, Nat.le_refl _, by decide, by simp, rfl⟩⟩
theorem app_ownD {W : World} {base : Nat} {x u : Value} {ds es : List D} (h : OwnD base W x ds) (hu : SDiag W u es) (hb : base ≤ W.heap.size) (hd : ds.length + es.length ≤ 2000) :
    ∃ x' w', (app30 #[x, u]).run Tryd.prog W = .ok (.value x') w' ∧ OwnD base w' x' (ds ++ es) ∧ Below base W w' := by
  obtain ⟨x', w', k, o, g, -⟩ := app30_own h hu hb hd
  exact ⟨x', w', k, o, (Below.refl base W).grown g hb (fun k e => owns_ge h e)⟩
theorem sd_len {W : World} {v : Value} {ds : List D} (h : SDiag W v ds) : ∃ a cap, v = .slice a ds.length cap := by
  obtain ⟨a, cap, rfl, -⟩ := h
  exact ⟨a, cap, rfl⟩

set_option maxRecDepth 100000 in
set_option maxHeartbeats 1000000 in
theorem clone_any (ds : List D) (v : Value) (w : World) (hv : SDiag w v ds) (hl : ds.length ≤ 1000) :
    Calls Tryd.prog 32 #[v] w fun e w' => ∃ u, e = .returned u ∧ OwnD w.heap.size w' u ds ∧ Below w.heap.size w w' := by
  have HV := Lib.hid hv
  obtain ⟨a, cap, rfl, hr⟩ := hv
  cases a with
  | none =>
    obtain rfl : ds = [] := by
      cases ds with
      | nil => rfl
      | cons x l => obtain ⟨g, off, h0, _⟩ := hr 0 x rfl; cases h0
    clear hr
    have hnil : (binOp .eql 30 (.slice none 0 cap) (.slice none 0 0)).run Tryd.prog w = .ok (.bool true) w := Lib.run_eql_slice_nil w 30 29 none 0 cap 0 0 Tryd.underlying30
    simp only [List.length_nil]
    go_enter Tryd.func32, Tryd.ntmps32
    go_wp2_with fail
    go_ret
    exact ⟨_, rfl, OwnD.nil _ _, Below.refl _ _⟩
  | some a =>
    clear hr
    have b1 : Below w.heap.size w (w.alloc (.cells #[] 29)) := (Below.refl _ w).alloc (Nat.le_refl _) _
    have o1 := ownD_lit w
    obtain ⟨x', w', k1, o2, g2⟩ := app_ownD o1 (HV.out.below b1) (by simp) (by simp; omega)
    have b2 := Lib.hid (b1.trans g2)
    have O2 := Lib.hid o2
    have hnil : (binOp .eql 30 (.slice (some a) ds.length cap) (.slice none 0 0)).run Tryd.prog w = .ok (.bool false) w := Lib.run_eql_slice_nil w 30 29 (some a) ds.length cap 0 0 Tryd.underlying30
    clear o1 o2 g2 b1
    go_enter Tryd.func32, Tryd.ntmps32
    go_wp2_with fail
    go_ret
    exact ⟨_, rfl, O2.out, b2.out⟩

set_option maxRecDepth 100000 in
set_option maxHeartbeats 1000000 in
theorem insertion_nil (v f : Value) (w : World) : Calls Tryd.prog 48 #[v, .int .i64 0, .int .i64 0, f] w fun e w' => e = .returned (.tuple #[]) ∧ w' = w := by
  go_enter Tryd.func48, Tryd.ntmps48
  go_wp2_with fail
  go_loopw [8] (fun i wr => i = .int .i64 1 ∧ wr = w) (fun _ _ => 0)
  case atStart => exact ⟨by go_num, rfl⟩
  case round =>
    obtain ⟨rfl, rfl⟩ := hrel
    go_wp2_with fail
    go_end0
    exact ⟨rfl, rfl⟩
set_option maxRecDepth 100000 in
set_option maxHeartbeats 1000000 in
theorem stable_nil (v f : Value) (w : World) : Calls Tryd.prog 42 #[v, .int .i64 0, f] w fun e w' => e = .returned (.tuple #[]) ∧ w' = w := by
  go_enter Tryd.func42, Tryd.ntmps42
  go_wp2_with fail
  go_loopw [7, 8] (fun va vb wr => va = .int .i64 0 ∧ vb = .int .i64 20 ∧ wr = w) (fun _ _ _ => 0)
  case atStart => exact ⟨rfl, rfl, rfl⟩
  case round =>
    obtain ⟨rfl, rfl, rfl⟩ := hrel
    have hC := insertion_nil v f wr
    go_wp2_with fail
    go_at_call 48
    with_reducible refine hC.mono ?_
    rintro _ w3 ⟨rfl, rfl⟩
    go_wp2_with fail
    go_loopw [6, 7, 8] (fun v6 v7 v8 wx => v6 = .int .i64 20 ∧ wx = w3) (fun _ _ _ _ => 0)
    case atStart => exact ⟨rfl, rfl⟩
    case round =>
      obtain ⟨rfl, rfl⟩ := hrel
      go_wp2_with fail
      go_end0
      exact ⟨rfl, rfl⟩

set_option maxRecDepth 100000 in
set_option maxHeartbeats 1000000 in
theorem sort_any (base : Nat) (v : Value) (w : World) (ds : List D) (h : OwnD base w v ds) (hn : ds.length ≤ 41) :
    Calls Tryd.prog 33 #[v, .func (.func 34) #[] #[]] w fun e w' => e = .returned (.tuple #[]) ∧ ∃ es, OwnD base w' v es ∧ es.Perm ds ∧ So es 0 es.length ∧ Below base w w' := by
  rcases h.forms with ⟨rfl, rfl⟩ | ⟨g, cap, rfl, hr⟩
  · have hC := stable_nil (.slice none 0 0) (.func (.func 34) #[] #[]) w
    have H := Lib.hid h
    clear h
    go_enter Tryd.func33, Tryd.ntmps33
    go_wp2_with fail
    go_at_call 42
    with_reducible refine hC.mono ?_
    rintro _ w3 ⟨rfl, rfl⟩
    go_wp2_with fail
    go_end0
    exact ⟨rfl, [], H.out, List.Perm.refl _, fun p q h1 h2 h3 => absurd h3 (Nat.not_lt_zero _), Below.refl _ _⟩
  · have hC := Lib.hid (stable_any base g ds.length cap w ds hr hn)
    clear h hr
    go_enter Tryd.func33, Tryd.ntmps33
    go_wp2_with fail
    go_at_call 42
    with_reducible refine hC.out.mono ?_
    rintro _ w3 ⟨rfl, es, r3, p3, s3, b3⟩
    have R3 := Lib.hid r3
    have P3 := Lib.hid p3
    have S3 := Lib.hid s3
    have B3 := Lib.hid b3
    clear r3 p3 s3 b3
    go_wp2_with fail
    go_end0
    exact ⟨rfl, es, R3.out.own, P3.out, by rw [R3.out.1]; exact S3.out, B3.out⟩

set_option maxRecDepth 100000 in
set_option maxHeartbeats 1000000 in
theorem sorted_any (ds : List D) (v : Value) (w : World) (hv : SDiag w v ds) (hn : ds.length ≤ 41) :
    Calls Tryd.prog 17 #[v] w fun e w' => ∃ u es, e = .returned u ∧ OwnD w.heap.size w' u es ∧ es.Perm ds ∧ So es 0 es.length ∧ Below w.heap.size w w' := by
  have hC := Lib.hid (clone_any ds v w hv (by omega))
  clear hv
  go_enter Tryd.func17, Tryd.ntmps17
  go_wp2_with fail
  go_at_call 32
  with_reducible refine hC.out.mono ?_
  rintro _ w2 ⟨u, rfl, o2, b2⟩
  have hC2 := Lib.hid (sort_any w.heap.size u w2 ds o2 hn)
  have B2 := Lib.hid b2
  clear o2 b2 hC
  go_wp2_with fail
  go_at_call 33
  with_reducible refine hC2.out.mono ?_
  rintro _ w3 ⟨rfl, es, o3, p3, s3, b3⟩
  have R3 := Lib.hid o3
  have P3 := Lib.hid p3
  have S3 := Lib.hid s3
  have B3 := Lib.hid (B2.out.trans b3)
  clear o3 p3 s3 b3
  go_wp2_with fail
  go_ret
  exact ⟨u, es, rfl, R3.out, P3.out, S3.out, B3.out⟩
end Go.Proofs.YtalopkplpbdgjaaDoor
