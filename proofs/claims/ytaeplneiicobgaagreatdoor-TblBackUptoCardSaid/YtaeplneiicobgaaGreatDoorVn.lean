/- The program's own for tables, printed: a row. -/
import Derived.Test.YtaeplneiicobgaaGreatDoorV8
import Derived.Test.YtaeplneiicobgaaGreatDoorJK
import Derived.BigRegion
import Derived.Deep.RegionWith
set_option linter.unusedVariables false
set_option linter.unusedSimpArgs false
namespace Go.Proofs.YtaeplneiicobgaaGreatDoor
open Go.RowKit
theorem join9 (c : UInt8) : ∀ l : List Txt, Lib.join l [c] = joinB c l
  | [] => rfl
  | [a] => Lib.join_one a [c]
  | a :: b :: l => by
    have ih := join9 c (b :: l)
    rw [Lib.join_cons] at ih
    rw [Lib.join_cons, joinB, ← ih]
    simp [Lib.joinTail]
theorem map_byte9 (l : List Txt) : (l.map (fun t => (⟨t.toArray⟩ : ByteArray))).map (·.data.toList) = l := by
  rw [List.map_map]
  exact List.map_id l
/-- strings.Join of texts in memory. -/
theorem join_any9 (l : List Txt) (c : UInt8) (a : Option Addr) (n cap : Nat) (w : World) (hv : ∃ g off, a = some ⟨g, off, none⟩ ∧ g < w.heap.size ∧ ∀ (j : Nat) x, l[j]? = some x → w.cell? ⟨g, off + j, none⟩ = some (.string ⟨x.toArray⟩)) (hn : n = l.length) (hc : n ≤ cap) (hl : lnT l ≤ 1000000) :
    Calls Tryz.prog 16 #[.slice a n cap, .string ⟨#[c]⟩] w fun e w' => e = .returned (.string ⟨(joinB c l).toArray⟩) ∧ Below w.heap.size w w' := by
  obtain ⟨g, off, rfl, hg, h⟩ := hv
  subst hn
  have h1 := lnT_num l
  have h2 := joinB_len c l
  have key := bjoin_any9 g off cap (l.map (fun t => (⟨t.toArray⟩ : ByteArray))) ⟨#[c]⟩ w (fun j x hx => by
    rw [List.getElem?_map] at hx
    cases hj : l[j]? with
    | none => rw [hj] at hx; cases hx
    | some t =>
      rw [hj] at hx
      cases hx
      exact h j t hj) hg (by rw [List.length_map]; omega) (by rw [List.length_map]; omega) (by
    rw [map_byte9, show (⟨#[c]⟩ : ByteArray).data.toList = [c] from rfl, join9]; omega)
  rw [map_byte9, List.length_map, show (⟨#[c]⟩ : ByteArray).data.toList = [c] from rfl, join9] at key
  exact key
noncomputable def makeS9 (a b : Value) : Sem Value := Instr.makeSlice 36 a b
theorem make_makeS9 (a b : Value) : Instr.makeSlice 36 a b = makeS9 a b := rfl
theorem makeS9_run (W : World) (n : Nat) (hn : n ≤ 100000) : (makeS9 (.int .i64 (n : Int)) (.int .i64 (n : Int))).run Tryz.prog W = .ok (.slice (some ⟨W.heap.size, 0, none⟩) n n) (W.alloc (.cells (List.replicate n (Value.string ⟨#[]⟩)).toArray 9)) := by
  obtain ⟨i0, hi, hz0, hz1, hz2⟩ := info_parts infoS
  have := run_makeSlice (P := Tryz.prog) W 36 9 i0 _ Tryz.underlying36 hi hz0 .i64 .i64 (n : Int) (n : Int) (by omega) (Int.le_refl _) (by rw [hz1]; simp; omega) (by rw [hz2]; omega) (by omega)
  unfold makeS9
  rw [this]
  simp only [Int.toNat_natCast, hz1]
  have e : (Value.string ⟨#[]⟩).cells = #[.string ⟨#[]⟩] := rfl
  rw [e]
  have e2 : madeCells #[Value.string ⟨#[]⟩] (n * 1) = (List.replicate n (Value.string ⟨#[]⟩)).toArray := by
    apply Array.ext'
    rw [toList_madeCells_one, Nat.mul_one]
  rw [e2]
/-- The texts of the first cells, and room for more. -/
def prB9 (b : Bool) (l : List (List Gly)) (j : Nat) : List Value := (l.take j).map (fun c => Value.string ⟨(pcellT b c).toArray⟩) ++ List.replicate (l.length - j) (Value.string ⟨#[]⟩)
theorem prB9_set {b : Bool} {l : List (List Gly)} {j : Nat} {c : List Gly} (h : l[j]? = some c) : (prB9 b l j).set j (.string ⟨(pcellT b c).toArray⟩) = prB9 b l (j + 1) := by
  have hj := (List.getElem?_eq_some_iff.1 h).1
  have e1 : ((l.take j).map (fun c => Value.string ⟨(pcellT b c).toArray⟩)).length = j := by rw [List.length_map, List.length_take]; omega
  unfold prB9
  rw [List.set_append_right _ _ (by omega), e1, Nat.sub_self, take_one9 h, List.map_append, List.append_assoc]
  congr 1
  rw [show l.length - j = (l.length - (j + 1)) + 1 by omega, List.replicate_succ]
  rfl
theorem prB9_at {b : Bool} {l : List (List Gly)} {j : Nat} (h : j < l.length) : (prB9 b l j)[j]? = some (.string ⟨#[]⟩) := by
  have e1 : ((l.take j).map (fun c => Value.string ⟨(pcellT b c).toArray⟩)).length = j := by rw [List.length_map, List.length_take]; omega
  unfold prB9
  rw [List.getElem?_append_right (by omega), e1, Nat.sub_self, show l.length - j = (l.length - (j + 1)) + 1 by omega, List.replicate_succ]
  rfl
theorem prB9_all (b : Bool) (l : List (List Gly)) : prB9 b l l.length = (l.map (pcellT b)).map (fun t => Value.string ⟨t.toArray⟩) := by
  unfold prB9
  rw [List.take_length, Nat.sub_self, List.map_map]
  simp
theorem prB9_len (b : Bool) (l : List (List Gly)) (j : Nat) (h : j ≤ l.length) : (prB9 b l j).length = l.length := by
  unfold prB9
  rw [List.length_append, List.length_map, List.length_take, List.length_replicate]
  omega
theorem pcellT_len9 (b : Bool) (c : List Gly) : (pcellT b c).length ≤ c.length + 2 := by
  unfold pcellT
  have := cellT_len c
  split
  · simp only [List.length_cons]; omega
  · omega
theorem lnT_cells9 (b : Bool) : ∀ l : List (List Gly), lnT (l.map (pcellT b)) ≤ lens l + 3 * l.length
  | [] => by simp [lnT]
  | c :: l => by
    have ih := lnT_cells9 b l
    have h1 := pcellT_len9 b c
    have h2 := lens_app [c] l
    rw [lens_one] at h2
    rw [List.map_cons, lnT_cons, List.length_cons]
    have h3 : lens (c :: l) = c.length + lens l := h2
    omega
attribute [local go_sem] Oper.semAt_some
attribute [local go_sem ↓ high] binop_eqlS binop_neqS make_makeS9
set_option maxRecDepth 100000 in
set_option maxHeartbeats 4000000 in
theorem printed_any9 (S : Nat → Prop) (r : Trow) (a : Option Addr) (cap : Nat) (w : World) (hv : GrS S w (.slice a r.2.length cap) r.2) (hS : ∀ b, S b → b < w.heap.size) (hb : ∀ c ∈ r.2, c.all bareG = true) (hl : r.2.length + lens r.2 ≤ 90000) :
    Calls Tryz.prog 18 #[.agg #[.bool r.1, .slice a r.2.length cap]] w fun e w' => e = .returned (.string ⟨(prowT r).toArray⟩) ∧ Below w.heap.size w w' := by
  obtain ⟨q, l⟩ := r
  simp only at hv hb hl ⊢
  obtain ⟨W1, hW1⟩ : ∃ W1, w.alloc (.cells #[.bool q, .slice a l.length cap] 41) = W1 := ⟨_, rfl⟩
  have b1 : Below w.heap.size w W1 := by rw [← hW1]; exact below_lit w _
  have k1 : Blk W1 w.heap.size 41 [.bool q, .slice a l.length cap] := by rw [← hW1]; exact heap_alloc_new w _
  have z1 : W1.heap.size = w.heap.size + 1 := by rw [← hW1]; simp
  have c0 : W1.cell? ⟨w.heap.size, 0, none⟩ = some (.bool q) := k1.cell 0
  have c1 : W1.cell? ⟨w.heap.size, 1, none⟩ = some (.slice a l.length cap) := k1.cell 1
  cases q
  · have HMK := makeS9_run W1 l.length (by omega)
    obtain ⟨W2, hW2⟩ : ∃ W2, W1.alloc (.cells (List.replicate l.length (Value.string ⟨#[]⟩)).toArray 9) = W2 := ⟨_, rfl⟩
    rw [hW2] at HMK
    have b2 : Below W1.heap.size W1 W2 := by rw [← hW2]; exact below_lit W1 _
    obtain ⟨al, hal⟩ : ∃ al, decide (l.length = 1) = al := ⟨_, rfl⟩
    have k2 : Blk W2 W1.heap.size 9 (prB9 al l 0) := by rw [← hW2]; exact heap_alloc_new W1 _
    have K1 := k1.below b2
    have d1 : W2.cell? ⟨w.heap.size, 1, none⟩ = some (.slice a l.length cap) := K1.cell 1
    have B2 := Lib.hid (b1.trans (b2.mono b1.size))
    have K2 := Lib.hid k2
    obtain ⟨n, hn⟩ : ∃ n, l.length = n := ⟨_, rfl⟩
    obtain ⟨G, hG⟩ : ∃ G, W1.heap.size = G := ⟨_, rfl⟩
    rw [hn] at d1 HMK c1 hal hW1 hW2
    rw [hG] at HMK K2
    have HV := Lib.hid hv
    rw [hn] at HV ⊢
    have HN := Lib.hid hn
    have HZ := Lib.hid z1
    rw [hG] at HZ
    have heq1 : ((n : Int) == 1) = al := by rw [← hal]; by_cases h : n = 1 <;> simp [h] <;> omega
    have hnb : n ≤ 90000 := by omega
    obtain ⟨P, hP⟩ : ∃ P, prowT (false, l) = P := ⟨_, rfl⟩
    rw [hP]
    have HP := Lib.hid hP
    clear b1 b2 k1 k2 K1 hv hG z1 hn hP
    go_enter Tryz.func18, Tryz.ntmps18
    go_wp2_with fail
    have HB := Lib.hid hb
    clear hb hW1 hW2 c0 c1 d1
    go_loopw [4, 5, 15] (fun _ _ i wr => ∃ j : Nat, j ≤ n ∧ i = .int .i64 j ∧ Hid (Blk wr G 9 (prB9 al l j)) ∧ Hid (Below w.heap.size w wr)) (fun _ _ i _ => n - (intOf i).toNat)
    case atStart => exact ⟨0, by omega, rfl, K2, B2⟩
    case round =>
      obtain ⟨j, hj, rfl, HK, BW⟩ := hrel
      clear K2 B2
      by_cases hlt : j < n
      · have hlt2 : j < l.length := by rw [HN.out]; exact hlt
        obtain ⟨c, hc⟩ : ∃ c, l[j]? = some c := ⟨l[j], List.getElem?_eq_getElem hlt2⟩
        obtain ⟨L, hLl, hLv, hLr⟩ := HV.out
        obtain ⟨s, hs⟩ : ∃ s, L[j]? = some s := ⟨L[j]'(by omega), List.getElem?_eq_getElem _⟩
        have hcs := hLr j s c hs hc
        obtain ⟨a', cap', e', -, hrd⟩ := hLv.1
        obtain ⟨g, off, e2, h2⟩ := hrd j s hs
        have h3 := h2 0 (pv s) rfl
        injection e' with e3 e4 e5
        subst e3
        subst e2
        have h4 : w.cell? ⟨g, off + j, none⟩ = some (pv s) := by rw [show off + j = off + (j * 1 + 0) by omega]; exact h3
        have h5 : wr.cell? ⟨g, off + j, none⟩ = some (pv s) := (BW.out.cell (World.block_lt_of_cell? _ _ h4)).trans h4
        have hcg : Gs w (pv s) c := hcs.1
        have hll := lens_le hc
        have HTX : Hid (∀ W, Below wr.heap.size wr W → Calls Tryz.prog 38 #[pv s] W fun e w' => e = .returned (.string ⟨(cellT c).toArray⟩) ∧ Hid (Below wr.heap.size wr w')) := Lib.hid fun W hW => (text_any9 c (pv s) W (Fs.below (Fs.below hcg BW.out) (hW.mono (Nat.le_refl _))) (HB.out c (List.mem_of_getElem? hc)) (by omega)).mono fun e w' ⟨q1, q2⟩ => ⟨q1, Lib.hid (hW.trans (q2.mono hW.size))⟩
        have hbk : Blk wr G 9 (prB9 al l j) := HK.out
        have hGl : G < wr.heap.size := (Array.getElem?_eq_some_iff.1 hbk).1
        have HGD : Hid (∀ W, Below wr.heap.size wr W → Calls Tryz.prog 37 #[.string ⟨(cellT c).toArray⟩, .bool al] W fun e w' => e = .returned (.string ⟨(pcellT al c).toArray⟩) ∧ w'.cell? ⟨G, j, none⟩ = some (.string ⟨#[]⟩) ∧ w'.frozen? ⟨G, j, none⟩ = false ∧ Hid (Blk (w'.setCell ⟨G, j, none⟩ (.string ⟨(pcellT al c).toArray⟩)) G 9 (prB9 al l (j + 1))) ∧ Hid (Below w.heap.size w (w'.setCell ⟨G, j, none⟩ (.string ⟨(pcellT al c).toArray⟩)))) := Lib.hid fun W hW => by
          refine (guarded_any9 (cellT c) al W (by rw [cellT_len]; omega)).mono ?_
          rintro e w' ⟨q1, q2⟩
          have b5 := hW.trans (q2.mono hW.size)
          have k5 := hbk.below b5
          refine ⟨q1, (k5.cell j).trans (prB9_at hlt2), k5.frozen (by rw [prB9_len al l j (by omega)]; exact hlt2), Lib.hid ?_, Lib.hid ((BW.out.trans (b5.mono BW.out.size)).setCell (p := ⟨G, j, none⟩) (by show w.heap.size ≤ G; have := HZ.out; omega) _)⟩
          have k6 := k5.set j (.string ⟨(pcellT al c).toArray⟩)
          rw [prB9_set hc] at k6
          exact k6
        obtain ⟨s1, s2, s3⟩ := s
        simp only [pv] at h5 HTX
        have hi0 : (j : Int) < (n : Int) := by omega
        have hi1 : (0 : Int) ≤ (j : Int) := by omega
        clear h4 h3 h2 hcs hcg hc hs hLr hLv hrd hbk HK hll hlt2 e5 e4
        go_wp2_with (first
          | (go_at_call 38; refine (HTX.out _ (Below.refl _ _)).mono ?_; rintro e w2 ⟨rfl, b2⟩)
          | (go_at_call 37; refine (HGD.out _ b2.out).mono ?_; rintro e w3 ⟨rfl, c3, f3, k3, b3⟩))
        go_roundw
        case rel => exact ⟨j + 1, by omega, by go_num, k3, b3⟩
        case measure => (simp [intOf]; try omega)
      · obtain rfl : j = n := by omega
        have hlt' : ¬ (j : Int) < (j : Int) := by omega
        have hK : Blk wr G 9 ((l.map (pcellT al)).map (fun t => Value.string ⟨t.toArray⟩)) := by
          have h : Blk wr G 9 (prB9 al l j) := HK.out
          rw [← HN.out, prB9_all] at h
          exact h
        have hJ : Hid (Calls Tryz.prog 16 #[.slice (some ⟨G, 0, none⟩) j j, .string ⟨#[9]⟩] wr fun e w' => e = .returned (.string ⟨(joinB 9 (l.map (pcellT al))).toArray⟩) ∧ Hid (Below w.heap.size w w')) := Lib.hid ((join_any9 (l.map (pcellT al)) 9 _ j j wr ⟨G, 0, rfl, (Array.getElem?_eq_some_iff.1 hK).1, fun i x hx => by
          rw [Nat.zero_add]
          have h := hK.cell i
          rw [List.getElem?_map, hx] at h
          exact h⟩ (by rw [List.length_map]; exact HN.out.symm) (Nat.le_refl _) (by have := lnT_cells9 al l; omega)).mono fun e w' ⟨q1, q2⟩ => ⟨q1, Lib.hid (BW.out.trans (q2.mono BW.out.size))⟩)
        have hR : Hid (prowT (false, l) = joinB 9 (l.map (pcellT al))) := Lib.hid (by rw [← hal, ← HN.out]; rfl)
        clear hK HK BW HB HV
        go_wp2_with (go_at_call 16; refine hJ.out.mono ?_; rintro e w3 ⟨rfl, b3⟩)
        go_ret
        have hPJ : joinB 9 (l.map (pcellT al)) = P := hR.out.symm.trans HP.out
        exact ⟨by rw [← hPJ]; rfl, b3.out⟩
  · have B1 := Lib.hid b1
    clear b1 k1 hv
    go_enter Tryz.func18, Tryz.ntmps18
    go_wp2_with fail
    go_ret
    exact ⟨rfl, B1.out⟩
end Go.Proofs.YtaeplneiicobgaaGreatDoor
