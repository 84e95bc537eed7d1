/- The program's own for documents: which kind may stand where; what a node of a kind lacks; what it may have. -/
import Derived.Test.YtienjlbpaedbjaaDoorOQ5
import Derived.Test.YtienjlbpaedbjaaDoorOQ6
import Derived.Test.YtienjlbpaedbjaaDoorODm
namespace Go.Proofs.YtienjlbpaedbjaaDoor
open Go.RowKit

def pst (m k : Int) : Bool := if k = 1 then m == 0 else if k = 2 then m == 1 else true
set_option maxRecDepth 100000 in
theorem pstands_any (m k : Int) (w : World) : Calls Tryd.prog 70 #[.int .i64 m, .int .i64 k] w fun e w' => e = .returned (.bool (pst m k)) ∧ w = w' := by
  unfold pst
  by_cases h1 : k = 1
  · subst h1
    rw [if_pos rfl]
    go_enter Tryd.func70, Tryd.ntmps70
    go_wp2_with fail
    go_ret
    exact ⟨rfl, rfl⟩
  · rw [if_neg h1]
    have n1 : (k == 1) = false := by simpa using h1
    by_cases h2 : k = 2
    · subst h2
      rw [if_pos rfl]
      go_enter Tryd.func70, Tryd.ntmps70
      go_wp2_with fail
      go_ret
      exact ⟨rfl, rfl⟩
    · rw [if_neg h2]
      have n2 : (k == 2) = false := by simpa using h2
      clear h1 h2
      go_enter Tryd.func70, Tryd.ntmps70
      go_wp2_with fail
      go_ret
      exact ⟨rfl, rfl⟩
theorem ret_int0 {a b : Bool} (h : a = b) : Ending.returned (.bool a) = .returned (.bool b) := by rw [h]
set_option maxRecDepth 100000 in
set_option maxHeartbeats 4000000 in
theorem placks_any (x : NV) (w : World) :
    Calls Tryd.prog 84 #[.agg (ncell x).toArray] w fun e w' => e = .returned (.bool (!fullV x.kind x.text.2.1 x.kids.2.1 x.rows.2.1 x.trows.2.1)) ∧ Below w.heap.size w w' := by
  have B1 := Lib.hid (below_lit w (.cells (ncell x).toArray 39))
  obtain ⟨k, xl, xn, ⟨t1, t2, t3⟩, ⟨k1, k2, k3⟩, ⟨r1, r2, r3⟩, xc, ⟨q1, q2, q3⟩, xb, xa⟩ := x
  simp only [ncell, pv] at B1 ⊢
  unfold fullV
  by_cases h1 : k = 1
  · subst h1
    have HF : Hid ((((t2 : Nat) : Int) == 0) = !decide (0 < t2)) := Lib.hid (by cases t2 <;> simp <;> omega)
    go_enter Tryd.func84, Tryd.ntmps84
    go_wp2_with fail
    go_ret
    exact ⟨ret_int0 (by first | (simp; done) | (have := HF.out; simpa using this)), B1.out⟩
  · have n1 : (k == 1) = false := by simpa using h1
    by_cases h2 : k = 2
    · subst h2
      have HF : Hid ((((t2 : Nat) : Int) == 0) = !decide (0 < t2)) := Lib.hid (by cases t2 <;> simp <;> omega)
      clear h1
      go_enter Tryd.func84, Tryd.ntmps84
      go_wp2_with fail
      go_ret
      exact ⟨ret_int0 (by first | (simp; done) | (have := HF.out; simpa using this)), B1.out⟩
    · have n2 : (k == 2) = false := by simpa using h2
      by_cases h3 : k = 3
      · subst h3
        have HF : Hid ((((t2 : Nat) : Int) == 0) = !decide (0 < t2)) := Lib.hid (by cases t2 <;> simp <;> omega)
        clear h1 h2
        go_enter Tryd.func84, Tryd.ntmps84
        go_wp2_with fail
        go_ret
        exact ⟨ret_int0 (by first | (simp; done) | (have := HF.out; simpa using this)), B1.out⟩
      · have n3 : (k == 3) = false := by simpa using h3
        by_cases h4 : k = 4
        · subst h4
          clear h1 h2 h3
          go_enter Tryd.func84, Tryd.ntmps84
          go_wp2_with fail
          go_ret
          exact ⟨ret_int0 (by simp), B1.out⟩
        · have n4 : (k == 4) = false := by simpa using h4
          by_cases h5 : k = 5
          · subst h5
            have HF : Hid ((((k2 : Nat) : Int) == 0) = !decide (0 < k2)) := Lib.hid (by cases k2 <;> simp <;> omega)
            clear h1 h2 h3 h4
            go_enter Tryd.func84, Tryd.ntmps84
            go_wp2_with fail
            go_ret
            exact ⟨ret_int0 (by first | (simp; done) | (have := HF.out; simpa using this)), B1.out⟩
          · have n5 : (k == 5) = false := by simpa using h5
            by_cases h6 : k = 6
            · subst h6
              have HF : Hid ((((r2 : Nat) : Int) == 0) = !decide (0 < r2)) := Lib.hid (by cases r2 <;> simp <;> omega)
              clear h1 h2 h3 h4 h5
              go_enter Tryd.func84, Tryd.ntmps84
              go_wp2_with fail
              go_ret
              exact ⟨ret_int0 (by first | (simp; done) | (have := HF.out; simpa using this)), B1.out⟩
            · have n6 : (k == 6) = false := by simpa using h6
              by_cases h7 : k = 7
              · subst h7
                have HF : Hid ((((q2 : Nat) : Int) == 0) = !decide (0 < q2)) := Lib.hid (by cases q2 <;> simp <;> omega)
                clear h1 h2 h3 h4 h5 h6
                go_enter Tryd.func84, Tryd.ntmps84
                go_wp2_with fail
                go_ret
                exact ⟨ret_int0 (by first | (simp; done) | (have := HF.out; simpa using this)), B1.out⟩
              · have n7 : (k == 7) = false := by simpa using h7
                have HR : Hid ((!(if 1 ≤ k ∧ k ≤ 3 then decide (0 < t2) else if k = 5 then decide (0 < k2) else if k = 6 then decide (0 < r2) else k == 4 || (k == 7 && decide (0 < q2)))) = true) := Lib.hid (by rw [if_neg (by omega), if_neg h5, if_neg h6, n4, n7]; rfl)
                rw [HR.out]
                clear h1 h2 h3 h4 h5 h6 h7
                go_enter Tryd.func84, Tryd.ntmps84
                go_wp2_with fail
                go_ret
                exact ⟨rfl, B1.out⟩

/-- What a node of its kind may have, as it is. -/
abbrev nilP : PV := (none, 0, 0)
def ownV (x : NV) : NV :=
  ⟨x.kind, x.line, if x.kind = 4 ∨ x.kind = 5 then x.n else 0, if 1 ≤ x.kind ∧ x.kind ≤ 4 then x.text else nilP, if mayK x.kind then x.kids else nilP, if x.kind = 6 then x.rows else nilP, if x.kind = 7 then x.cols else [], if x.kind = 7 then x.trows else nilP, if x.kind = 7 then x.box else false, if x.kind = 7 then x.all else false⟩
def ownP (h : Hd) : Hd :=
  ⟨h.kind, h.line, if h.kind = 4 ∨ h.kind = 5 then h.n else 0, if 1 ≤ h.kind ∧ h.kind ≤ 4 then h.text else [], if h.kind = 6 then h.rows else [], if h.kind = 7 then h.grid else noGrid⟩
theorem HdIs.own {S : Nat → Prop} {w : World} {x : NV} {h : Hd} (k : HdIs S w x h) : HdIs S w (ownV x) (ownP h) := by
  have e := k.kind
  unfold ownV ownP
  rw [← e]
  have c1 : (if x.kind = 7 then x.cols else []) = (if x.kind = 7 then h.grid else noGrid).cols := by split; exact k.cols; rfl
  have c2 : (if x.kind = 7 then x.box else false) = (if x.kind = 7 then h.grid else noGrid).box := by split; exact k.box; rfl
  have c3 : (if x.kind = 7 then x.all else false) = (if x.kind = 7 then h.grid else noGrid).all := by split; exact k.all; rfl
  refine ⟨rfl, k.line, ?_, ?_, ?_, c1, ?_, c2, c3⟩
  · simp only; split; exact k.n; rfl
  · simp only; split; exact k.text; exact FsS.nil _ _ _ _
  · simp only; split; exact k.rows; exact GrS.nil _ _
  · simp only; split; exact k.trows; exact TrS.nil _ _
set_option maxRecDepth 100000 in
set_option maxHeartbeats 8000000 in
theorem pown_any (x : NV) (w : World) :
    Calls Tryd.prog 87 #[.agg (ncell x).toArray] w fun e w' => e = .returned (.agg (ncell (ownV x)).toArray) ∧ Below w.heap.size w w' := by
  obtain ⟨k, xl, xn, ⟨t1, t2, t3⟩, ⟨k1, k2, k3⟩, ⟨r1, r2, r3⟩, xc, ⟨q1, q2, q3⟩, xb, xa⟩ := x
  by_cases h1 : k = 1
  · subst h1
    have HE : Hid (ownV ⟨1, xl, xn, (t1, t2, t3), (k1, k2, k3), (r1, r2, r3), xc, (q1, q2, q3), xb, xa⟩ = ⟨1, xl, 0, (t1, t2, t3), (k1, k2, k3), nilP, [], nilP, false, false⟩) := Lib.hid (rfl)
    rw [HE.out]
    simp only [ncell, pv, nilP]
    clear HE
    go_enter Tryd.func87, Tryd.ntmps87
    go_wp2_with fail
    refine bodyPost_ret (v := .agg #[.int .i64 1, .int .i64 xl, .int .i64 0, .slice t1 t2 t3, .slice k1 k2 k3, .slice none 0 0, .string ⟨#[]⟩, .slice none 0 0, .bool false, .bool false]) (by simp [results, Tryd.results87, go_sem]) rfl ?_
    exact ⟨rfl, ((((Below.refl _ w).alloc (Nat.le_refl _) _).alloc (by simp) _).alloc (by simp; omega) _)⟩
  · have n1 : (k == 1) = false := by simpa using h1
    by_cases h2 : k = 2
    · subst h2
      have HE : Hid (ownV ⟨2, xl, xn, (t1, t2, t3), (k1, k2, k3), (r1, r2, r3), xc, (q1, q2, q3), xb, xa⟩ = ⟨2, xl, 0, (t1, t2, t3), (k1, k2, k3), nilP, [], nilP, false, false⟩) := Lib.hid (rfl)
      rw [HE.out]
      simp only [ncell, pv, nilP]
      clear HE h1
      go_enter Tryd.func87, Tryd.ntmps87
      go_wp2_with fail
      refine bodyPost_ret (v := .agg #[.int .i64 2, .int .i64 xl, .int .i64 0, .slice t1 t2 t3, .slice k1 k2 k3, .slice none 0 0, .string ⟨#[]⟩, .slice none 0 0, .bool false, .bool false]) (by simp [results, Tryd.results87, go_sem]) rfl ?_
      exact ⟨rfl, ((((Below.refl _ w).alloc (Nat.le_refl _) _).alloc (by simp) _).alloc (by simp; omega) _)⟩
    · have n2 : (k == 2) = false := by simpa using h2
      by_cases h3 : k = 3
      · subst h3
        have HE : Hid (ownV ⟨3, xl, xn, (t1, t2, t3), (k1, k2, k3), (r1, r2, r3), xc, (q1, q2, q3), xb, xa⟩ = ⟨3, xl, 0, (t1, t2, t3), nilP, nilP, [], nilP, false, false⟩) := Lib.hid (rfl)
        rw [HE.out]
        simp only [ncell, pv, nilP]
        clear HE h1 h2
        go_enter Tryd.func87, Tryd.ntmps87
        go_wp2_with fail
        refine bodyPost_ret (v := .agg #[.int .i64 3, .int .i64 xl, .int .i64 0, .slice t1 t2 t3, .slice none 0 0, .slice none 0 0, .string ⟨#[]⟩, .slice none 0 0, .bool false, .bool false]) (by simp [results, Tryd.results87, go_sem]) rfl ?_
        exact ⟨rfl, ((((Below.refl _ w).alloc (Nat.le_refl _) _).alloc (by simp) _).alloc (by simp; omega) _)⟩
      · have n3 : (k == 3) = false := by simpa using h3
        by_cases h4 : k = 4
        · subst h4
          have HE : Hid (ownV ⟨4, xl, xn, (t1, t2, t3), (k1, k2, k3), (r1, r2, r3), xc, (q1, q2, q3), xb, xa⟩ = ⟨4, xl, xn, (t1, t2, t3), (k1, k2, k3), nilP, [], nilP, false, false⟩) := Lib.hid (rfl)
          rw [HE.out]
          simp only [ncell, pv, nilP]
          clear HE h1 h2 h3
          go_enter Tryd.func87, Tryd.ntmps87
          go_wp2_with fail
          go_region
          go_wp2_with fail
          refine bodyPost_ret (v := .agg #[.int .i64 4, .int .i64 xl, .int .i64 xn, .slice t1 t2 t3, .slice k1 k2 k3, .slice none 0 0, .string ⟨#[]⟩, .slice none 0 0, .bool false, .bool false]) (by simp [results, Tryd.results87, go_sem]) rfl ?_
          exact ⟨rfl, ((((Below.refl _ w).alloc (Nat.le_refl _) _).alloc (by simp) _).alloc (by simp; omega) _).drew⟩
        · have n4 : (k == 4) = false := by simpa using h4
          by_cases h5 : k = 5
          · subst h5
            have HE : Hid (ownV ⟨5, xl, xn, (t1, t2, t3), (k1, k2, k3), (r1, r2, r3), xc, (q1, q2, q3), xb, xa⟩ = ⟨5, xl, xn, nilP, (k1, k2, k3), nilP, [], nilP, false, false⟩) := Lib.hid (rfl)
            rw [HE.out]
            simp only [ncell, pv, nilP]
            clear HE h1 h2 h3 h4
            go_enter Tryd.func87, Tryd.ntmps87
            go_wp2_with fail
            go_region
            go_wp2_with fail
            refine bodyPost_ret (v := .agg #[.int .i64 5, .int .i64 xl, .int .i64 xn, .slice none 0 0, .slice k1 k2 k3, .slice none 0 0, .string ⟨#[]⟩, .slice none 0 0, .bool false, .bool false]) (by simp [results, Tryd.results87, go_sem]) rfl ?_
            exact ⟨rfl, ((((Below.refl _ w).alloc (Nat.le_refl _) _).alloc (by simp) _).alloc (by simp; omega) _).drew⟩
          · have n5 : (k == 5) = false := by simpa using h5
            by_cases h6 : k = 6
            · subst h6
              have HE : Hid (ownV ⟨6, xl, xn, (t1, t2, t3), (k1, k2, k3), (r1, r2, r3), xc, (q1, q2, q3), xb, xa⟩ = ⟨6, xl, 0, nilP, nilP, (r1, r2, r3), [], nilP, false, false⟩) := Lib.hid (rfl)
              rw [HE.out]
              simp only [ncell, pv, nilP]
              clear HE h1 h2 h3 h4 h5
              go_enter Tryd.func87, Tryd.ntmps87
              go_wp2_with fail
              refine bodyPost_ret (v := .agg #[.int .i64 6, .int .i64 xl, .int .i64 0, .slice none 0 0, .slice none 0 0, .slice r1 r2 r3, .string ⟨#[]⟩, .slice none 0 0, .bool false, .bool false]) (by simp [results, Tryd.results87, go_sem]) rfl ?_
              exact ⟨rfl, ((((Below.refl _ w).alloc (Nat.le_refl _) _).alloc (by simp) _).alloc (by simp; omega) _)⟩
            · have n6 : (k == 6) = false := by simpa using h6
              by_cases h7 : k = 7
              · subst h7
                have HE : Hid (ownV ⟨7, xl, xn, (t1, t2, t3), (k1, k2, k3), (r1, r2, r3), xc, (q1, q2, q3), xb, xa⟩ = ⟨7, xl, 0, nilP, nilP, nilP, xc, (q1, q2, q3), xb, xa⟩) := Lib.hid (rfl)
                rw [HE.out]
                simp only [ncell, pv, nilP]
                clear HE h1 h2 h3 h4 h5 h6
                go_enter Tryd.func87, Tryd.ntmps87
                go_wp2_with fail
                refine bodyPost_ret (v := .agg #[.int .i64 7, .int .i64 xl, .int .i64 0, .slice none 0 0, .slice none 0 0, .slice none 0 0, .string ⟨xc.toArray⟩, .slice q1 q2 q3, .bool xb, .bool xa]) (by simp [results, Tryd.results87, go_sem]) rfl ?_
                exact ⟨rfl, ((((Below.refl _ w).alloc (Nat.le_refl _) _).alloc (by simp) _).alloc (by simp; omega) _)⟩
              · have n7 : (k == 7) = false := by simpa using h7
                have hm : mayK k = false := by unfold mayK; rw [n1, n2, n4, n5]; rfl
                have HE : Hid (ownV ⟨k, xl, xn, (t1, t2, t3), (k1, k2, k3), (r1, r2, r3), xc, (q1, q2, q3), xb, xa⟩ = ⟨k, xl, 0, nilP, nilP, nilP, [], nilP, false, false⟩) := Lib.hid (by unfold ownV; simp only [hm]; rw [if_neg (by omega), if_neg (by omega), if_neg h6, if_neg h7, if_neg h7, if_neg h7, if_neg h7]; rfl)
                rw [HE.out]
                simp only [ncell, pv, nilP]
                clear HE h1 h2 h3 h4 h5 h6 h7 hm
                go_enter Tryd.func87, Tryd.ntmps87
                go_wp2_with fail
                refine bodyPost_ret (v := .agg #[.int .i64 k, .int .i64 xl, .int .i64 0, .slice none 0 0, .slice none 0 0, .slice none 0 0, .string ⟨#[]⟩, .slice none 0 0, .bool false, .bool false]) (by simp [results, Tryd.results87, go_sem]) rfl ?_
                exact ⟨rfl, ((((Below.refl _ w).alloc (Nat.le_refl _) _).alloc (by simp) _).alloc (by simp; omega) _)⟩
end Go.Proofs.YtienjlbpaedbjaaDoor
