/- symMergeCmpFunc, all of it. -/
import Derived.Test.YtalopkplpbdgjaaDoorSb
import Derived.Test.YtalopkplpbdgjaaDoorSc
namespace Go.Proofs.YtalopkplpbdgjaaDoor
open Go.RowKit

theorem sym_any (base g n cap : Nat) (hn : n ≤ 1000) : ∀ (N a m b : Nat) (w : World) (ds : List D), b - a < N → Rw base g n cap w ds → a < m → m < b → b ≤ n → So ds a m → So ds m b →
    Calls Tryd.prog 49 #[.slice (some ⟨g, 0, none⟩) n cap, .int .i64 a, .int .i64 m, .int .i64 b, .func (.func 34) #[] #[]] w fun e w' => e = .returned (.tuple #[]) ∧ ∃ es, Rw base g n cap w' es ∧ Re ds es a b ∧ So es a b ∧ Below base w w'
  | 0, a, m, b, w, ds, hN, h, ham, hmb, hb, h1, h2 => absurd hN (Nat.not_lt_zero _)
  | N + 1, a, m, b, w, ds, hN, h, ham, hmb, hb, h1, h2 => by
    by_cases e1 : m = a + 1
    · subst e1
      exact sym_one base g n cap a b w ds h (by omega) hb hn h2
    · by_cases e2 : m + 1 = b
      · exact sym_last base g n cap a m b w ds h (by omega) e2 hb hn h1
      · have ih : ∀ (a' m' b' : Nat) (w1 : World) (ds1 : List D), b' - a' < b - a → Rw base g n cap w1 ds1 → a' < m' → m' < b' → b' ≤ n → So ds1 a' m' → So ds1 m' b' → Calls Tryd.prog 49 #[.slice (some ⟨g, 0, none⟩) n cap, .int .i64 a', .int .i64 m', .int .i64 b', .func (.func 34) #[] #[]] w1 fun e w' => e = .returned (.tuple #[]) ∧ ∃ es, Rw base g n cap w' es ∧ Re ds1 es a' b' ∧ So es a' b' ∧ Below base w1 w' :=
          fun a' m' b' w1 ds1 k1 k2 k3 k4 k5 k6 k7 => sym_any base g n cap hn N a' m' b' w1 ds1 (by omega) k2 k3 k4 k5 k6 k7
        by_cases e3 : (a + b) / 2 < m
        · exact sym_more_gt base g n cap a m b _ _ w ds h (by omega) (by omega) hb hn h1 h2 rfl rfl e3 ih
        · exact sym_more_le base g n cap a m b _ _ w ds h (by omega) (by omega) hb hn h1 h2 rfl rfl (by omega) ih
end Go.Proofs.YtalopkplpbdgjaaDoor
