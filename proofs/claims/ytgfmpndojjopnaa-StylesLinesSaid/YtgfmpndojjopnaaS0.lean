/- A face that turns, in the program and in the document's answer; tokens as glyphs, in plain maths. -/
import Derived.Test.YtgfmpndojjopnaaG2
import Derived.Test.YtgfmpndojjopnaaEq
import Derived.Test.YtgfmpndojjopnaaEi
namespace Go.Proofs.Ytgfmpndojjopnaa
open Go.RowKit

/-- A face: how glyphs are set now, and how they were before. -/
abbrev Fce := Int × Int
def fv (f : Fce) : Value := .agg #[.int .u8 f.1, .int .u8 f.2]
def fturn (f : Fce) (n : Int) : Fce := if n = 4 then (f.2, f.1) else if 0 ≤ n ∧ n ≤ 3 then (n, f.1) else f
def gstep (s : List Gly × Fce) (t : Tok) : List Gly × Fce :=
  if t.1 = 1 then (s.1 ++ [(t.2, s.2.1)], s.2) else if t.1 = 2 then (s.1 ++ [(32, 0)], s.2) else if t.1 = 3 then (s.1, fturn s.2 t.2) else s
def gset (f : Fce) (l : List Tok) : List Gly × Fce := l.foldl gstep ([], f)
theorem gset_take {f : Fce} {l : List Tok} {j : Nat} {t : Tok} (h : l[j]? = some t) : gset f (l.take (j + 1)) = gstep (gset f (l.take j)) t := by
  unfold gset
  rw [List.take_add_one, h, List.foldl_append]
  rfl
theorem gstep_len (s : List Gly × Fce) (t : Tok) : (gstep s t).1.length ≤ s.1.length + 1 := by
  unfold gstep
  split
  · simp
  · split
    · simp
    · split <;> simp
theorem gfold_len : ∀ (l : List Tok) (s : List Gly × Fce), (l.foldl gstep s).1.length ≤ s.1.length + l.length
  | [], s => by simp
  | t :: l, s => by
    have := gfold_len l (gstep s t)
    have := gstep_len s t
    simp only [List.foldl_cons, List.length_cons]
    omega
theorem gset_len (f : Fce) (l : List Tok) : (gset f l).1.length ≤ l.length := by
  have := gfold_len l ([], f)
  simpa [gset] using this
theorem gfold_app : ∀ (l : List Tok) (x : List Gly) (f : Fce), l.foldl gstep (x, f) = (x ++ (gset f l).1, (gset f l).2)
  | [], x, f => by simp [gset]
  | t :: l, x, f => by
    have e : ∀ (y : List Gly) (g : Fce), gstep (y, g) t = (y ++ (gstep ([], g) t).1, (gstep ([], g) t).2) := by
      intro y g
      unfold gstep
      split
      · simp
      · split
        · simp
        · split <;> simp
    unfold gset
    simp only [List.foldl_cons]
    rw [e x f, gfold_app l (x ++ (gstep ([], f) t).1), gfold_app l (gstep ([], f) t).1 (gstep ([], f) t).2, List.append_assoc]
theorem gset_app (f : Fce) (a b : List Tok) : gset f (a ++ b) = ((gset f a).1 ++ (gset (gset f a).2 b).1, (gset (gset f a).2 b).2) := by
  conv => lhs; unfold gset
  rw [List.foldl_append]
  exact gfold_app b (gset f a).1 (gset f a).2

theorem fturn_back (a b : Int) : fturn (a, b) 4 = (b, a) := by simp [fturn]
theorem fturn_to (a b : Int) (n : Int) (h0 : 0 ≤ n) (h1 : n ≤ 3) : fturn (a, b) n = (n, a) := by unfold fturn; rw [if_neg (by omega), if_pos ⟨h0, h1⟩]
theorem fturn_none (f : Fce) (n : Int) (h : n < 0 ∨ 4 < n) : fturn f n = f := by unfold fturn; rw [if_neg (by omega), if_neg (by omega)]

theorem turn_ways (n : Int) : n = 0 ∨ n = 1 ∨ n = 2 ∨ n = 3 ∨ n = 4 ∨ n < 0 ∨ 4 < n := by omega
set_option maxRecDepth 100000 in
set_option maxHeartbeats 1000000 in
theorem turn_any (a b n : Int) (w : World) :
    Calls Try.prog 14 #[.agg #[.int .u8 a, .int .u8 b], .int .i32 n] w fun e w' => e = .returned (.agg #[.int .u8 (fturn (a, b) n).1, .int .u8 (fturn (a, b) n).2]) ∧ Below w.heap.size w w' := by
  obtain ⟨p, q, hpq⟩ : ∃ p q, fturn (a, b) n = (p, q) := ⟨_, _, rfl⟩
  rw [hpq]
  rcases turn_ways n with rfl | rfl | rfl | rfl | rfl | h | h
  · rw [fturn_to a b 0 (by omega) (by omega)] at hpq
    obtain ⟨rfl, rfl⟩ := Prod.mk.inj hpq
    clear hpq
    go_enter Try.func14, Try.ntmps14
    go_wp2_with fail
    exact bodyPost_ret (v := .agg #[_, _]) (by simp [results, Try.results14, go_sem]) rfl ⟨rfl, below_two w _ _⟩
  · rw [fturn_to a b 1 (by omega) (by omega)] at hpq
    obtain ⟨rfl, rfl⟩ := Prod.mk.inj hpq
    clear hpq
    go_enter Try.func14, Try.ntmps14
    go_wp2_with fail
    exact bodyPost_ret (v := .agg #[_, _]) (by simp [results, Try.results14, go_sem]) rfl ⟨rfl, below_two w _ _⟩
  · rw [fturn_to a b 2 (by omega) (by omega)] at hpq
    obtain ⟨rfl, rfl⟩ := Prod.mk.inj hpq
    clear hpq
    go_enter Try.func14, Try.ntmps14
    go_wp2_with fail
    exact bodyPost_ret (v := .agg #[_, _]) (by simp [results, Try.results14, go_sem]) rfl ⟨rfl, below_two w _ _⟩
  · rw [fturn_to a b 3 (by omega) (by omega)] at hpq
    obtain ⟨rfl, rfl⟩ := Prod.mk.inj hpq
    clear hpq
    go_enter Try.func14, Try.ntmps14
    go_wp2_with fail
    exact bodyPost_ret (v := .agg #[_, _]) (by simp [results, Try.results14, go_sem]) rfl ⟨rfl, below_two w _ _⟩
  · rw [fturn_back a b] at hpq
    obtain ⟨rfl, rfl⟩ := Prod.mk.inj hpq
    clear hpq
    go_enter Try.func14, Try.ntmps14
    go_wp2_with fail
    exact bodyPost_ret (v := .agg #[_, _]) (by simp [results, Try.results14, go_sem]) rfl ⟨rfl, below_two w _ _⟩
  · rw [fturn_none (a, b) n (.inl h)] at hpq
    obtain ⟨rfl, rfl⟩ := Prod.mk.inj hpq
    have x0 : ¬ n = 0 := by omega
    have x1 : ¬ n = 1 := by omega
    have x2 : ¬ n = 2 := by omega
    have x3 : ¬ n = 3 := by omega
    have x4 : ¬ n = 4 := by omega
    have x5 : ¬ 4 < n := by omega
    clear hpq
    go_enter Try.func14, Try.ntmps14
    go_wp2_with fail
    exact bodyPost_ret (v := .agg #[_, _]) (by simp [results, Try.results14, go_sem]) rfl ⟨rfl, below_two w _ _⟩
  · rw [fturn_none (a, b) n (.inr h)] at hpq
    obtain ⟨rfl, rfl⟩ := Prod.mk.inj hpq
    have x0 : ¬ n = 0 := by omega
    have x1 : ¬ n = 1 := by omega
    have x2 : ¬ n = 2 := by omega
    have x3 : ¬ n = 3 := by omega
    have x4 : ¬ n = 4 := by omega
    have x5 : ¬ n < 0 := by omega
    clear hpq
    go_enter Try.func14, Try.ntmps14
    go_wp2_with fail
    exact bodyPost_ret (v := .agg #[_, _]) (by simp [results, Try.results14, go_sem]) rfl ⟨rfl, below_two w _ _⟩
set_option maxRecDepth 100000 in
set_option maxHeartbeats 1000000 in
theorem rturn_any (a b n : Int) (w : World) :
    Calls Try.prog 17 #[.agg #[.int .u8 a, .int .u8 b], .int .i32 n] w fun e w' => e = .returned (.agg #[.int .u8 (fturn (a, b) n).1, .int .u8 (fturn (a, b) n).2]) ∧ Below w.heap.size w w' := by
  obtain ⟨p, q, hpq⟩ : ∃ p q, fturn (a, b) n = (p, q) := ⟨_, _, rfl⟩
  rw [hpq]
  rcases turn_ways n with rfl | rfl | rfl | rfl | rfl | h | h
  · rw [fturn_to a b 0 (by omega) (by omega)] at hpq
    obtain ⟨rfl, rfl⟩ := Prod.mk.inj hpq
    clear hpq
    go_enter Try.func17, Try.ntmps17
    go_wp2_with fail
    exact bodyPost_ret (v := .agg #[_, _]) (by simp [results, Try.results17, go_sem]) rfl ⟨rfl, below_two w _ _⟩
  · rw [fturn_to a b 1 (by omega) (by omega)] at hpq
    obtain ⟨rfl, rfl⟩ := Prod.mk.inj hpq
    clear hpq
    go_enter Try.func17, Try.ntmps17
    go_wp2_with fail
    exact bodyPost_ret (v := .agg #[_, _]) (by simp [results, Try.results17, go_sem]) rfl ⟨rfl, below_two w _ _⟩
  · rw [fturn_to a b 2 (by omega) (by omega)] at hpq
    obtain ⟨rfl, rfl⟩ := Prod.mk.inj hpq
    clear hpq
    go_enter Try.func17, Try.ntmps17
    go_wp2_with fail
    exact bodyPost_ret (v := .agg #[_, _]) (by simp [results, Try.results17, go_sem]) rfl ⟨rfl, below_two w _ _⟩
  · rw [fturn_to a b 3 (by omega) (by omega)] at hpq
    obtain ⟨rfl, rfl⟩ := Prod.mk.inj hpq
    clear hpq
    go_enter Try.func17, Try.ntmps17
    go_wp2_with fail
    exact bodyPost_ret (v := .agg #[_, _]) (by simp [results, Try.results17, go_sem]) rfl ⟨rfl, below_two w _ _⟩
  · rw [fturn_back a b] at hpq
    obtain ⟨rfl, rfl⟩ := Prod.mk.inj hpq
    clear hpq
    go_enter Try.func17, Try.ntmps17
    go_wp2_with fail
    exact bodyPost_ret (v := .agg #[_, _]) (by simp [results, Try.results17, go_sem]) rfl ⟨rfl, below_two w _ _⟩
  · rw [fturn_none (a, b) n (.inl h)] at hpq
    obtain ⟨rfl, rfl⟩ := Prod.mk.inj hpq
    have x0 : ¬ n = 0 := by omega
    have x1 : ¬ n = 1 := by omega
    have x2 : ¬ n = 2 := by omega
    have x3 : ¬ n = 3 := by omega
    have x4 : ¬ n = 4 := by omega
    have x5 : ¬ 4 < n := by omega
    clear hpq
    go_enter Try.func17, Try.ntmps17
    go_wp2_with fail
    exact bodyPost_ret (v := .agg #[_, _]) (by simp [results, Try.results17, go_sem]) rfl ⟨rfl, below_two w _ _⟩
  · rw [fturn_none (a, b) n (.inr h)] at hpq
    obtain ⟨rfl, rfl⟩ := Prod.mk.inj hpq
    have x0 : ¬ n = 0 := by omega
    have x1 : ¬ n = 1 := by omega
    have x2 : ¬ n = 2 := by omega
    have x3 : ¬ n = 3 := by omega
    have x4 : ¬ n = 4 := by omega
    have x5 : ¬ n < 0 := by omega
    clear hpq
    go_enter Try.func17, Try.ntmps17
    go_wp2_with fail
    exact bodyPost_ret (v := .agg #[_, _]) (by simp [results, Try.results17, go_sem]) rfl ⟨rfl, below_two w _ _⟩
end Go.Proofs.Ytgfmpndojjopnaa
