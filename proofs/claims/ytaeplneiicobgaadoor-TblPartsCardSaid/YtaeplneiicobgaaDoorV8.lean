/- A table's reader: the number of the line that was read last; what is told; its lines, one by one. -/
import Derived.Test.YtaeplneiicobgaaDoorV2
import Derived.Test.YtaeplneiicobgaaDoorV4
import Derived.BigQuiet
import Derived.Sort.QuietIn
set_option linter.unusedVariables false
set_option linter.unusedSimpArgs false
namespace Go.Proofs.YtaeplneiicobgaaDoor
open Go.RowKit
section
attribute [local go_sem ↓ high] builtin_appDg
set_option maxRecDepth 100000 in
set_option maxHeartbeats 1000000 in
theorem at9_any {w : World} {B : Nat} {line : Int} {vl : Value} {s : RS} (W : World) (h : RI w B line vl s W) (h0 : 0 ≤ line) (h1 : line ≤ 100000) (hk : s.k ≤ 1000000) :
    Calls Tryd.prog 42 #[.pointer (some ⟨B, 0, none⟩)] W fun e W' => e = .returned (.int .i64 (line + s.k - 1)) ∧ Below W.heap.size W W' := by
  obtain ⟨vr, vd, hb, -, -⟩ := h.val
  have c0 : W.cell? ⟨B, 0, none⟩ = some (.int .i64 line) := hb.cell 0
  have c2 : W.cell? ⟨B, 2, none⟩ = some (.int .i64 (s.k : Int)) := hb.cell 2
  obtain ⟨k, hk'⟩ : ∃ k : Int, (s.k : Int) = k := ⟨_, rfl⟩
  rw [hk'] at c2 ⊢
  have w1 : IntKind.i64.wrap (line + k) = line + k := wrap_any9 (by omega) (by omega)
  have w2 : IntKind.i64.wrap (line + k - 1) = line + k - 1 := wrap_any9 (by omega) (by omega)
  have HB := Lib.hid (fun m => below_drewN (Below.refl W.heap.size W) m)
  clear hb h hk' hk
  go_enter Tryd.func42, Tryd.ntmps42
  go_wp2_with fail
  go_quiet (fail)
  go_wp2_with fail
  go_ret
  exact ⟨rfl, HB.out _⟩
set_option maxRecDepth 100000 in
set_option maxHeartbeats 1000000 in
theorem tell9_any {w : World} {B : Nat} {line : Int} {vl : Value} {s : RS} (W : World) (h : RI w B line vl s W) (k ln : Int) (hD : s.d.length ≤ 500000) :
    Calls Tryd.prog 41 #[.pointer (some ⟨B, 0, none⟩), .int .i64 k, .int .i64 ln] W fun e W' => e = .returned (.tuple #[]) ∧ RI w B line vl { s with d := s.d ++ [(k, ln, 0)] } W' ∧ FrR W W' := by
  obtain ⟨a, c, a', c', w2, c7, hr, q7, f7, hRI, hF, -⟩ := h.tell (k, ln, 0) hD
  have hr' : (appDg #[.slice a s.d.length c, .slice (some ⟨W.heap.size, 0, none⟩) 1 1]).run Tryd.prog (W.alloc (.cells #[.int .i64 k, .int .i64 ln, .int .i64 0] 41)) = .ok (.value (.slice a' (s.d.length + 1) c')) w2 := hr
  obtain ⟨m, hm⟩ : ∃ m, s.d.length = m := ⟨_, rfl⟩
  rw [hm] at c7 hr' q7 hRI hF
  have HR := Lib.hid hRI
  have HF := Lib.hid hF
  clear hr hRI hF h hm hD
  go_enter Tryd.func41, Tryd.ntmps41
  go_wp2_with fail
  go_end0
  exact ⟨rfl, HR.out, HF.out⟩
end
theorem left9_any (B : Nat) (W : World) : Calls Tryd.prog 28 #[.pointer (some ⟨B, 0, none⟩)] W fun e w' =>
    e = .returned (.func (.func 44) #[] #[.pointer (some ⟨W.heap.size, 0, none⟩)]) ∧ W.alloc (.cells #[.pointer (some ⟨B, 0, none⟩)] 66) = w' := by
  have hmf : ∀ (fn : Fn) (first cap : Array Value) (w : World), (Instr.makeFunc fn first cap).run Tryd.prog w = .ok (.func fn first cap) w := fun _ _ _ _ => rfl
  go_enter Tryd.func28, Tryd.ntmps28
  go_wp2_with fail
  go_ret
  exact ⟨rfl, rfl⟩
end Go.Proofs.YtaeplneiicobgaaDoor
