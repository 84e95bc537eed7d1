/- The contract of walk at every error of bounded depth, and of the iterator that found makes. -/
import Derived.Test.YtalopkplpbdgjaaDoorW9
import Derived.Shelf.RegionOpen
namespace Go.Proofs.YtalopkplpbdgjaaDoor
open Go.RowKit Go.Shelf Go.Extern.Stop Go.Stop Go.Extern

attribute [local go_sem] Oper.semAt_some

theorem Spot.Ok.up {s : Spot} {k k' : Nat} (h : s.Ok k) (hk : k ≤ k') : s.Ok k' := by
  obtain ⟨⟨p1, p2⟩, ⟨p3, p4⟩, o1, o2⟩ := h
  constructor <;> omega

theorem walk_any (W0 : World) (l N : Nat) (J Jx : List (ItemAt W0) → World → Prop) (B0 : Nat) (hJ : AbidesFrom B0 J) (hY : YieldsTo W0 l N J Jx) (hE : ErrType W0) : ∀ n, WalkAt W0 l N J Jx n := by
  intro n
  induction n with
  | zero => intro v ds s k m pre W he; exact he.elim
  | succ n ih =>
    intro v ds s k m pre W he hs hk hB hj hN
    unfold Er at he
    rcases he with ⟨b, kk, l', c, rfl, h0, h1, h2, hz, hp, rfl⟩ | ⟨b, tx, x, ls, cs, ds', rfl, h0, h1, h2, hr, rfl⟩ | ⟨b, sb, cap, es, dss, rfl, hp, hm, hl, h0, hc, hr, rfl⟩
    · exact walk_one W0 l N m J Jx B0 hJ hY ⟨⟨b, (kk, l', c), s⟩, ⟨h0, h1, h2, hz, hp, hs.up (by omega)⟩⟩ pre W hE hB hj (by simp at hN; omega)
    · have := walk_moved W0 l N m n k J Jx B0 hJ ih s hs hk b tx x ls cs ds' h0 h1 h2 hr pre W hB hj (by simpa using hN)
      have e : (ds'.map (mv ls cs)).map s.ap = ds'.map (s.within ls cs).ap := by
        rw [List.map_map]
        exact List.map_congr_left fun d hd => (Spot.within_ap hs ls cs (hr.inPlace d hd)).symm
      rw [e]
      exact this
    · exact walk_joined W0 l N m n k J Jx B0 hJ ih s hs hk b sb cap es dss hp hm hl h0 hc hr pre W hB hj hN

set_option maxHeartbeats 400000 in
theorem found_any (t : TypeId) (v : Value) (w : World) : Calls Tryd.prog 29 #[.iface t v] w fun e w' => e = .returned (.func (.func 36) #[] #[.pointer (some ⟨w.heap.size, 0, none⟩)]) ∧ w.alloc (.cells #[.iface t v] 34) = w' := by
  have hmf : ∀ (fn : Fn) (first cap : Array Value) (w : World), (Instr.makeFunc fn first cap).run Tryd.prog w = .ok (.func fn first cap) w := fun _ _ _ _ => rfl
  go_enter Tryd.func29, Tryd.ntmps29
  go_wp2
  go_ret
  exact ⟨rfl, rfl⟩
theorem found_nil (w : World) : Calls Tryd.prog 29 #[.nilIface] w fun e w' => e = .returned (.func (.func 36) #[] #[.pointer (some ⟨w.heap.size, 0, none⟩)]) ∧ w.alloc (.cells #[.nilIface] 34) = w' := by
  have hmf : ∀ (fn : Fn) (first cap : Array Value) (w : World), (Instr.makeFunc fn first cap).run Tryd.prog w = .ok (.func fn first cap) w := fun _ _ _ _ => rfl
  go_enter Tryd.func29, Tryd.ntmps29
  go_wp2
  go_ret
  exact ⟨rfl, rfl⟩

def FoundPost (W0 : World) (J Jx : List (ItemAt W0) → World → Prop) (ds : List D) (W' : World) : Prop := (∃ q : List (ItemAt W0), q.map dOf = ds ∧ J q W') ∨ (∃ q : List (ItemAt W0), q.map dOf <+: ds ∧ q ≠ [] ∧ Jx q W')
theorem WalkPost.found {W0 : World} {J Jx : List (ItemAt W0) → World → Prop} {ds : List D} {W : World} {e : Ending} {W' : World} (h : WalkPost W0 J Jx ds [] W e W') : ∃ b : Bool, e = .returned (.bool b) ∧ FoundPost W0 J Jx ds W' := by
  rcases h with ⟨rfl, q, hq, hJ2, hk2⟩ | ⟨rfl, q, hq, hne, hx2⟩
  · exact ⟨true, rfl, .inl ⟨q, hq, hJ2⟩⟩
  · exact ⟨false, rfl, .inr ⟨q, hq, hne, hx2⟩⟩

set_option maxRecDepth 100000 in
set_option maxHeartbeats 1000000 in
theorem found1_in (W0 : World) (l N m n : Nat) (J Jx : List (ItemAt W0) → World → Prop) (B0 : Nat) (hJ : AbidesFrom B0 J) (hY : YieldsTo W0 l N J Jx) (hE : ErrType W0) (v : Value) (ds : List D) (hv : Er W0 n v ds) (hn : n ≤ 1000) (hN : ds.length ≤ N)
    (Be : Nat) (W : World) (hbe : W.cell? ⟨Be, 0, none⟩ = some v) (hB : Below W0.heap.size W0 W) (hj : J [] W) :
    CallsIn Fence.wide m Tryd.prog 36 #[.func (.yield l) #[] #[], .pointer (some ⟨Be, 0, none⟩)] W fun e W' => (∃ v, e = .returned v) ∧ FoundPost W0 J Jx ds W' := by
  refine callsIn_of_wp Tryd.func36 rfl trivial ?_ rfl
  simp only [Tryd.ntmps36, List.size_toArray, List.length_cons, List.length_nil, Nat.reduceAdd, Nat.reduceSub, Array.replicate_succ, Array.replicate_zero, List.push_toArray, List.append_toArray, List.nil_append, List.cons_append]
  have hW := Lib.hid (fun W h1 h2 => walk_any W0 l N J Jx B0 hJ hY hE n v ds Spot.still 0 (m - 1) [] W hv Spot.still_ok (by omega) h1 h2 (by simpa using hN))
  have E0 := Lib.hid (show ds.map Spot.still.ap = ds from by
    conv => rhs; rw [← List.map_id ds]
    exact List.map_congr_left fun d hd => Spot.still_ap (hv.inPlace d hd))
  have hno : ∀ r, (none : Option Nat) = some r → B0 ≤ r ∧ ∃ o : Obj, W.heap[r]? = some o ∧ o.isWalk = true := fun r e => by cases e
  have hst := fun W => (callsIn_wide (n := m - 1)).2 (still_any W)
  gi_wp2_with fail
  have hmix : Tryd.prog.follows .mixedOrders = true := by kernel_rfl
  gi_region_with_o (first
    | (refine ⟨trivial, fun h => (by cases h), ?_⟩; gi_at_call 38; refine (hst _).mono ?_; rintro e W1 ⟨rfl, hb1⟩; obtain ⟨hc1, hf1⟩ := bcell hb1; have hbe1 : W1.cell? ⟨Be, 0, none⟩ = some v := (by rw [hb1.cell (p := ⟨Be, 0, none⟩) (by simpa using (World.block_lt_of_cell? W _ hbe))]; exact hbe); have hb1' : Below W.heap.size W W1 := (Below.refl _ W).drew.trans hb1; have hj1 : J [] W1 := hJ [] W W1 none hj (grown_of_below hb1' none) hno; have hB1 := hB.trans (hb1'.mono hB.size))
    | (refine ⟨trivial, fun h => (by cases h), ?_⟩; gi_at_call 37; refine (hW.out _ hB1 hj1).mono ?_; rintro e W2 h; obtain ⟨bv, rfl, hF⟩ := h.found; clear h))
  all_goals
    gi_wp2
    go_end0
    exact ⟨⟨_, rfl⟩, by rw [E0.out] at hF; exact hF⟩
end Go.Proofs.YtalopkplpbdgjaaDoor
