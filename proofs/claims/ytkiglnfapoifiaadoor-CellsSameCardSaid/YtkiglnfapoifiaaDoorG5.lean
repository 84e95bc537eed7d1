/- Clean, in the program and in the document's answer. -/
import Derived.Test.YtkiglnfapoifiaaDoorG4
namespace Go.Proofs.YtkiglnfapoifiaaDoor
open Go.RowKit

/-- A glyph as it may be written. -/
def clF (g : Gly) : Gly := (if g.1 = 160 then 32 else sf g.1, g.2 % 4)
/-- What has no width at the begin is left out. -/
def dropW : List Gly → List Gly
  | [] => []
  | g :: l => if 0 < wd g.1 then g :: l else dropW l
theorem dropW_len : ∀ l : List Gly, (dropW l).length ≤ l.length
  | [] => Nat.le_refl _
  | g :: l => by
    unfold dropW
    split
    · exact Nat.le_refl _
    · have := dropW_len l; simp only [List.length_cons]; omega
theorem dropW_snoc : ∀ (l : List Gly) (g : Gly), dropW (l ++ [g]) = if dropW l = [] then (if 0 < wd g.1 then [g] else []) else dropW l ++ [g]
  | [], g => by simp [dropW]
  | x :: l, g => by
    simp only [List.cons_append]
    unfold dropW
    by_cases h : 0 < wd x.1
    · rw [if_pos h, if_pos h, if_neg (by simp)]
      rfl
    · rw [if_neg h, if_neg h, dropW_snoc l g]
def cleanL (l : List Gly) : List Gly := dropW (l.map clF)
theorem cleanL_len (l : List Gly) : (cleanL l).length ≤ l.length := by
  have := dropW_len (l.map clF)
  rw [List.length_map] at this
  exact this
theorem cleanL_take {l : List Gly} {j : Nat} {g : Gly} (h : l[j]? = some g) : cleanL (l.take (j + 1)) = if cleanL (l.take j) = [] then (if 0 < wd (clF g).1 then [clF g] else []) else cleanL (l.take j) ++ [clF g] := by
  unfold cleanL
  rw [List.take_add_one, h]
  simp only [Option.toList_some, List.map_append, List.map_cons, List.map_nil]
  exact dropW_snoc _ _
theorem sf_hard : sf 160 = 160 := by decide
theorem sf_blank : sf 32 = 32 := by decide
theorem clF_sf (g : Gly) : sf (clF g).1 = (clF g).1 := by
  unfold clF
  by_cases h : g.1 = 160
  · simp only [if_pos h]; exact sf_blank
  · simp only [if_neg h]; exact sf_sf _
theorem sf_not_hard {r : Int} (h : r ≠ 160) : sf r ≠ 160 := by
  unfold sf
  split
  · exact h
  · omega
theorem clF_not_hard (g : Gly) : (clF g).1 ≠ 160 := by
  unfold clF
  by_cases h : g.1 = 160
  · simp only [if_pos h]; decide
  · simp only [if_neg h]; exact sf_not_hard h
theorem clF_clF (g : Gly) : clF (clF g) = clF g := by
  apply Prod.ext
  · show (if (clF g).1 = 160 then 32 else sf (clF g).1) = (clF g).1
    rw [if_neg (clF_not_hard g), clF_sf]
  · show g.2 % 4 % 4 = g.2 % 4
    omega
theorem dropW_mem : ∀ (l : List Gly) (g : Gly), g ∈ dropW l → g ∈ l
  | x :: l, g, h => by
    unfold dropW at h
    split at h
    · exact h
    · exact List.mem_cons_of_mem _ (dropW_mem l g h)
theorem dropW_dropW : ∀ l : List Gly, dropW (dropW l) = dropW l
  | [] => rfl
  | g :: l => by
    by_cases h : 0 < wd g.1
    · have e : dropW (g :: l) = g :: l := by unfold dropW; rw [if_pos h]
      rw [e, e]
    · have e : dropW (g :: l) = dropW l := by conv => lhs; unfold dropW; rw [if_neg h]
      rw [e, dropW_dropW l]
theorem cleanL_mem {l : List Gly} {g : Gly} (h : g ∈ cleanL l) : ∃ x, g = clF x := by
  have := dropW_mem _ _ h
  simp only [List.mem_map] at this
  obtain ⟨x, _, rfl⟩ := this
  exact ⟨x, rfl⟩
theorem map_same {f : Gly → Gly} : ∀ l : List Gly, (∀ g ∈ l, f g = g) → l.map f = l
  | [], _ => rfl
  | x :: l, h => by rw [List.map_cons, h x (by simp), map_same l (fun g hg => h g (by simp [hg]))]
theorem cleanL_cleanL (l : List Gly) : cleanL (cleanL l) = cleanL l := by
  have h : (cleanL l).map clF = cleanL l := map_same _ (fun g hg => by obtain ⟨x, rfl⟩ := cleanL_mem hg; exact clF_clF x)
  show dropW ((cleanL l).map clF) = cleanL l
  rw [h]
  exact dropW_dropW _
theorem dropW_head : ∀ (l : List Gly) (g : Gly), (dropW l)[0]? = some g → 0 < wd g.1
  | [], g, h => by simp [dropW] at h
  | x :: l, g, h => by
    unfold dropW at h
    by_cases hx : 0 < wd x.1
    · rw [if_pos hx] at h
      simp at h
      rw [← h]; exact hx
    · rw [if_neg hx] at h
      exact dropW_head l g h
theorem cleanL_head {l : List Gly} {g : Gly} (h : (cleanL l)[0]? = some g) : 0 < wd g.1 := dropW_head _ g h
/-- Runes that are numbers of 32 bits; how they are set, a byte. -/
def okG (l : List Gly) : Prop := ∀ g ∈ l, (-2147483648 ≤ g.1 ∧ g.1 ≤ 2147483647) ∧ (0 ≤ g.2 ∧ g.2 ≤ 255)
theorem clF_ok {g : Gly} (h : (-2147483648 ≤ g.1 ∧ g.1 ≤ 2147483647) ∧ (0 ≤ g.2 ∧ g.2 ≤ 255)) : (-2147483648 ≤ (clF g).1 ∧ (clF g).1 ≤ 2147483647) ∧ (0 ≤ (clF g).2 ∧ (clF g).2 ≤ 3) := by
  have hb := sf_bd g.1 h.1.1 h.1.2
  have h2 := h.2
  constructor
  · unfold clF
    by_cases h : g.1 = 160
    · simp only [if_pos h]; omega
    · simp only [if_neg h]; exact hb
  · show 0 ≤ g.2 % 4 ∧ g.2 % 4 ≤ 3
    omega
theorem cleanL_ok {l : List Gly} (h : okG l) : okG (cleanL l) := by
  intro g hg
  have := dropW_mem _ _ hg
  simp only [List.mem_map] at this
  obtain ⟨x, hx, rfl⟩ := this
  have := clF_ok (h x hx)
  exact ⟨this.1, this.2.1, by omega⟩

theorem and3_fin : ∀ n : Fin 256, bits .and .u8 ((n.val : Int)) 3 = (n.val : Int) % 4 := by decide +kernel
theorem and3 {s : Int} (h0 : 0 ≤ s) (h1 : s ≤ 255) : bits .and .u8 s 3 = s % 4 := by
  have h := and3_fin ⟨s.toNat, by omega⟩
  have e : ((s.toNat : Nat) : Int) = s := by omega
  simp only [e] at h
  exact h

set_option maxRecDepth 100000 in
set_option maxHeartbeats 1000000 in
theorem clean1_any (g : Gly) (h : (-2147483648 ≤ g.1 ∧ g.1 ≤ 2147483647) ∧ (0 ≤ g.2 ∧ g.2 ≤ 255)) (w : World) :
    Calls Tryd.prog 39 #[.agg #[.int .i32 g.1, .int .u8 g.2]] w fun e w' => e = .returned (.agg #[.int .i32 (clF g).1, .int .u8 (clF g).2]) ∧ Below w.heap.size w w' := by
  obtain ⟨r, s⟩ := g
  obtain ⟨⟨h1, h2⟩, h3, h4⟩ := h
  simp only at h1 h2 h3 h4
  by_cases hr : r = 160
  · have hE : clF (r, s) = (32, s % 4) := by unfold clF; simp only [if_pos hr]
    rw [hE]
    subst hr
    clear hE
    go_enter Tryd.func39, Tryd.ntmps39
    go_wp2_with fail
    rw [and3 h3 h4]
    exact bodyPost_ret (v := .agg #[.int .i32 32, .int .u8 (s % 4)]) (by simp [results, Tryd.results39, go_sem]) rfl ⟨rfl, ((Below.refl _ _).alloc (Nat.le_refl _) _).alloc (by simp) _⟩
  · have hE : clF (r, s) = (sf r, s % 4) := by unfold clF; simp only [if_neg hr]
    rw [hE]
    clear hE
    have HS := Lib.hid (fun W => safe_any r W)
    go_enter Tryd.func39, Tryd.ntmps39
    go_wp2_with fail
    go_region_with ((go_at_call 53; (with_reducible refine (HS.out _).mono ?_); rintro e wa ⟨rfl, rfl⟩))
    all_goals
      go_wp2_with fail
      rw [and3 h3 h4]
      refine bodyPost_ret (v := .agg #[.int .i32 (sf r), .int .u8 (s % 4)]) (by simp [results, Tryd.results39, go_sem]) rfl ⟨rfl, ?_⟩
      exact (((Below.refl _ _).alloc (Nat.le_refl _) _).alloc (by simp) _).drew
end Go.Proofs.YtkiglnfapoifiaaDoor
