/- The walk of RunesSafe. -/
import Derived.Test.YtblhofoikpnbkaaDoorW5
namespace Go.Proofs.YtblhofoikpnbkaaDoor
open Go.RowKit

set_option maxRecDepth 100000 in
set_option maxHeartbeats 1000000 in
theorem safes_any (r : Int) (w : World) (hT : Tabs w) : Calls Tryd.prog 6 #[.int .i32 r] w fun e W' => e = .returned (.bool true) ∧ Below w.heap.size w W' := by
  obtain ⟨s, hs⟩ : ∃ s, sf r = s := ⟨_, rfl⟩
  have S1 := safe_any r w
  have S2 := safe_any s w
  have V1 := valid_any s w
  have V2 := control_any s w
  have K := known_any w hT
  have W1 := width_any r w hT
  have W2 := width_any s w hT
  rw [hs] at S1
  have h1 : sf s = s := by rw [← hs]; exact sf_sf r
  have h2 : vld s = true := by rw [← hs]; exact vld_sf r
  have h3 : ctl s = false := by rw [← hs]; exact ctl_sf r
  rw [h1] at S2
  rw [h2] at V1
  rw [h3] at V2
  have hW := wd_bd r
  by_cases hne : s = r
  · subst hne
    clear hs h1 h2 h3 W2
    obtain ⟨Z, hZ⟩ : ∃ Z, wd s = Z := ⟨_, rfl⟩
    rw [hZ] at W1 hW
    clear hZ
    obtain ⟨hw0, hw2⟩ := hW
    have HK := Lib.hid K
    clear K hT
    go_enter Tryd.func6, Tryd.ntmps6
    go_wp2_with (first
      | (go_at_call 23; (with_reducible first | refine S1.mono ?_ | refine S2.mono ?_); rintro e w' ⟨rfl, rfl⟩)
      | (go_at_call 17; refine V1.mono ?_; rintro e w' ⟨rfl, rfl⟩)
      | (go_at_call 19; refine V2.mono ?_; rintro e w' ⟨rfl, rfl⟩)
      | (go_at_call 21; refine W1.mono ?_; rintro e w' ⟨rfl, rfl⟩)
      | (go_at_call 10; refine HK.out.mono ?_; rintro e w' ⟨rfl, hb⟩))
    go_ret
    exact ⟨rfl, hb⟩
  · have hb2 : (s == r) = false := by simpa using hne
    have hx := sf_ne (r := r) (by rw [hs]; exact hne)
    rw [hx.2] at W1
    have hs' : s = 65533 := by rw [← hs]; exact hx.1
    rw [hs', wd_odd, ← hs'] at W2
    clear hs hx hs' h1 h2 h3 hW
    have HK := Lib.hid K
    clear K hT
    go_enter Tryd.func6, Tryd.ntmps6
    go_wp2_with (first
      | (go_at_call 23; (with_reducible first | refine S1.mono ?_ | refine S2.mono ?_); rintro e w' ⟨rfl, rfl⟩)
      | (go_at_call 17; refine V1.mono ?_; rintro e w' ⟨rfl, rfl⟩)
      | (go_at_call 19; refine V2.mono ?_; rintro e w' ⟨rfl, rfl⟩)
      | (go_at_call 21; (with_reducible first | refine W1.mono ?_ | refine W2.mono ?_); rintro e w' ⟨rfl, rfl⟩)
      | (go_at_call 10; refine HK.out.mono ?_; rintro e w' ⟨rfl, hb⟩))
    go_ret
    exact ⟨rfl, hb⟩
end Go.Proofs.YtblhofoikpnbkaaDoor
