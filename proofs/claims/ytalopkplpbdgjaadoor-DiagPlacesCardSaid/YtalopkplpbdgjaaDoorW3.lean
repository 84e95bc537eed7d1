/- The contract of spot.within: what it returns, where the places that have been moved lie in memory; old memory is as it was. -/
import Derived.Test.YtalopkplpbdgjaaDoorW2
namespace Go.Proofs.YtalopkplpbdgjaaDoor
open Go.RowKit

theorem bcell {W w1 : World} (hb : Below W.heap.size W w1) : (∀ b o, b < W.heap.size → w1.cell? ⟨b, o, none⟩ = W.cell? ⟨b, o, none⟩) ∧ (∀ b o, b < W.heap.size → w1.frozen? ⟨b, o, none⟩ = W.frozen? ⟨b, o, none⟩) :=
  ⟨fun b o h => hb.cell (p := ⟨b, o, none⟩) h, fun b o h => hb.frozen (p := ⟨b, o, none⟩) h⟩

set_option maxHeartbeats 2000000 in
theorem spotwithin_any (a1 l1 h1 a2 l2 h2 ls cs : Int) (b : Nat) (w : World) (hl : w.cell? ⟨b, 1, none⟩ = some (.int .i64 ls)) (hc : w.cell? ⟨b, 2, none⟩ = some (.int .i64 cs))
   (k1 : -1152921504606846976 ≤ a1) (k2 : a1 ≤ 1152921504606846976) (k3 : -1152921504606846976 ≤ a2) (k4 : a2 ≤ 1152921504606846976) :
   Calls Tryd.prog 45 #[.agg #[.int .i64 a1, .int .i64 l1, .int .i64 h1, .int .i64 a2, .int .i64 l2, .int .i64 h2], .pointer (some ⟨b, 0, none⟩)] w fun e w' => e = .returned (.agg #[.int .i64 (min (max ls (-1099511627775)) 1099511627775 + a1), .int .i64 (min (max a1 l1) h1), .int .i64 (min (max (1099511627775 + a1) l1) h1), .int .i64 (min (max cs (-1099511627775)) 1099511627775 + a2), .int .i64 (min (max a2 l2) h2), .int .i64 (min (max (1099511627775 + a2) l2) h2)]) ∧ Below w.heap.size w w' := by
  have hlt := World.block_lt_of_cell? w _ hl
  simp only at hlt
  have hne : w.heap.size + 1 ≠ b := by omega
  go_enter Tryd.func45, Tryd.ntmps45
  go_wp2_with fail
  go_region_held3 (fun w' => w'.cell? ⟨w.heap.size, 0, none⟩ = some (.int .i64 a1) ∧ w'.cell? ⟨w.heap.size, 1, none⟩ = some (.int .i64 l1) ∧ w'.cell? ⟨w.heap.size, 2, none⟩ = some (.int .i64 h1) ∧ w'.cell? ⟨w.heap.size, 3, none⟩ = some (.int .i64 a2) ∧ w'.cell? ⟨w.heap.size, 4, none⟩ = some (.int .i64 l2) ∧ w'.cell? ⟨w.heap.size, 5, none⟩ = some (.int .i64 h2) ∧ w'.cell? ⟨b, 1, none⟩ = some (.int .i64 ls) ∧ w'.cell? ⟨b, 2, none⟩ = some (.int .i64 cs))
    (first
      | go_keep
      | (go_split_ands
         refine ⟨?_, ?_, ?_, ?_, ?_, ?_, ?_, ?_⟩ <;> ((repeat rw [World.cell?_setCell_far _ _ _ _ (by first | assumption | (simp; done))]); assumption))
      | (go_split_ands
         refine ⟨?_, ?_, ?_, ?_, ?_, ?_, ?_, ?_⟩ <;> (rw [hcc _ _ (by first | omega | (simp; done) | (simp; omega))]; assumption)))
    ((first
      | (go_at_call 51; (with_reducible refine (within_any a1 l1 h1 ls _ k1 k2).mono ?_); rintro e w1 ⟨rfl, hb⟩; obtain ⟨hcc, hff⟩ := bcell hb; have hcc1 := hcc; have hz := hb.size; simp at hz; have hn : w.heap.size + 1 < w1.heap.size := by omega)
      | (go_at_call 51; (with_reducible refine (within_any a2 l2 h2 cs _ k3 k4).mono ?_); rintro e w2 ⟨rfl, hb2⟩; obtain ⟨hcc, hff⟩ := bcell hb2; have hz2 := hb2.size; have hn2 : w.heap.size + 1 < w2.heap.size := by omega)))
  go_wp2
  have hB : Below w.heap.size w w2 := ((((Below.refl _ w).alloc (Nat.le_refl _) _).alloc (by simp) _).drew.trans (hb.mono (by simp; omega))).trans (hb2.mono (by omega))
  have q : ∀ o, o < 6 → w2.cell? ⟨w.heap.size + 1, o, none⟩ = some (.int .i64 0) := fun o ho => by
    rw [hcc _ _ hn, hcc1 _ _ (by simp)]
    rw [World.cell?_drew, World.cell?_alloc_at _ _ _ _ (by simp)]
    match o, ho with
    | 0, _ => rfl
    | 1, _ => rfl
    | 2, _ => rfl
    | 3, _ => rfl
    | 4, _ => rfl
    | 5, _ => rfl
  have q0 := q 0 (by omega)
  have q1 := q 1 (by omega)
  have q2 := q 2 (by omega)
  have q3 := q 3 (by omega)
  have q4 := q 4 (by omega)
  have q5 := q 5 (by omega)
  clear q hcc hff hcc1
  exact bodyPost_ret (v := .agg #[.int .i64 (min (max ls (-1099511627775)) 1099511627775 + a1), .int .i64 (min (max a1 l1) h1), .int .i64 (min (max (1099511627775 + a1) l1) h1), .int .i64 (min (max cs (-1099511627775)) 1099511627775 + a2), .int .i64 (min (max a2 l2) h2), .int .i64 (min (max (1099511627775 + a2) l2) h2)]) (by simp [results, Tryd.results45, go_sem, World.cell?_setCell_same', q0, q1, q2, q3, q4, q5]) rfl ⟨rfl, by
    refine Below.setCell (Below.setCell (Below.setCell (Below.setCell (Below.setCell (Below.setCell hB ?_ _) ?_ _) ?_ _) ?_ _) ?_ _) ?_ _ <;> simp⟩
end Go.Proofs.YtalopkplpbdgjaaDoor
