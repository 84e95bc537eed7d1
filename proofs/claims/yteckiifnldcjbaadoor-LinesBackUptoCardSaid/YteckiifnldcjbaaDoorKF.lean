/- strings.SplitSeq at a line feed: the iterator, and what it hands over. -/
import Derived.Test.YteckiifnldcjbaaDoorKE
namespace Go.Proofs.YteckiifnldcjbaaDoor
open Go.RowKit
attribute [local go_sem] Oper.semAt_some

/-- A text's pieces between line feeds. -/
def pcs : List UInt8 → List (List UInt8)
  | [] => [[]]
  | c :: t => if c = 10 then [] :: pcs t else (c :: (pcs t).headD []) :: (pcs t).tail
theorem pcs_ne : ∀ l : List UInt8, pcs l ≠ []
  | [] => by simp [pcs]
  | c :: t => by unfold pcs; split <;> simp
theorem pcs_last : ∀ l : List UInt8, Lib.indexByte l 10 = -1 → pcs l = [l]
  | [], _ => rfl
  | c :: t, h => by
    have hge := Lib.indexByte_ge t 10
    unfold Lib.indexByte at h
    by_cases hc : c = 10
    · subst hc; simp at h
    · have h1 : (c == 10) = false := by simpa using hc
      rw [h1] at h
      simp only [Bool.false_eq_true, if_false] at h
      by_cases hm : Lib.indexByte t 10 = -1
      · unfold pcs
        rw [if_neg hc, pcs_last t hm]
        rfl
      · have h2 : (Lib.indexByte t 10 == -1) = false := by simpa using hm
        rw [h2] at h
        simp only [Bool.false_eq_true, if_false] at h
        omega
theorem pcs_step : ∀ (l : List UInt8) (i : Nat), Lib.indexByte l 10 = (i : Int) → i < l.length ∧ pcs l = l.take i :: pcs (l.drop (i + 1))
  | [], i, h => absurd h (by show ¬ ((-1 : Int) = (i : Int)); omega)
  | c :: t, i, h => by
    have hge := Lib.indexByte_ge t 10
    unfold Lib.indexByte at h
    by_cases hc : c = 10
    · subst hc
      simp at h
      obtain rfl : i = 0 := by omega
      refine ⟨by simp, ?_⟩
      conv => lhs; unfold pcs
      simp
    · have h1 : (c == 10) = false := by simpa using hc
      rw [h1] at h
      simp only [Bool.false_eq_true, if_false] at h
      by_cases hm : Lib.indexByte t 10 = -1
      · rw [hm] at h; first | (simp at h; done) | (simp at h; omega)
      · have h2 : (Lib.indexByte t 10 == -1) = false := by simpa using hm
        rw [h2] at h
        simp only [Bool.false_eq_true, if_false] at h
        obtain ⟨k, rfl⟩ : ∃ k, i = k + 1 := ⟨i - 1, by omega⟩
        obtain ⟨h3, h4⟩ := pcs_step t k (by omega)
        refine ⟨by simp; omega, ?_⟩
        conv => lhs; unfold pcs
        rw [if_neg hc, h4]
        simp

/-- A line, as it is handed over. -/
def encL (x : List UInt8) : Array Value := #[.string ⟨x.toArray⟩]
theorem pcs_sum : ∀ l : List UInt8, (pcs l).flatten.length + (pcs l).length = l.length + 1
  | [] => rfl
  | c :: t => by
    have ih := pcs_sum t
    unfold pcs
    split
    · simp only [List.flatten_cons, List.length_append, List.length_nil, List.length_cons]; omega
    · cases h : pcs t with
      | nil => exact absurd h (pcs_ne t)
      | cons a r =>
        rw [h] at ih
        simp only [List.headD_cons, List.tail_cons, List.flatten_cons, List.length_append, List.length_cons] at ih ⊢
        omega
/-- What a round keeps: all below base but block B. -/
def KpB (base B : Nat) (A A' : World) : Prop := ∀ k, k < base → k ≠ B → A'.heap[k]? = A.heap[k]?
/-- How long the text in a cell is. -/
def cellLen (C : Nat) (W : World) : Nat := match W.cell? ⟨C, 0, none⟩ with
  | some v => txtLen v
  | none => 0
theorem cellLen_of {C : Nat} {W : World} {b : List UInt8} {t : TypeId} (h : Blk W C t [.string ⟨b.toArray⟩]) : cellLen C W = b.length := by
  unfold cellLen
  rw [h.cell 0]
  exact txtLen_of b

set_option maxHeartbeats 1000000 in
theorem splitSeq_any (s : List UInt8) (w : World) : Calls Tryd.prog 40 #[.string ⟨s.toArray⟩, .string ⟨#[10]⟩] w fun e w' =>
    e = .returned (.func (.func 70) #[] #[.pointer (some ⟨w.heap.size + 1, 0, none⟩), .pointer (some ⟨w.heap.size, 0, none⟩), .pointer (some ⟨w.heap.size + 2, 0, none⟩)]) ∧
    ((w.alloc (.cells #[.string ⟨s.toArray⟩] 9)).alloc (.cells #[.string ⟨#[10]⟩] 9)).alloc (.cells #[.int .i64 0] 3) = w' := by
  have hmf : ∀ (fn : Fn) (first cap : Array Value) (w : World), (Instr.makeFunc fn first cap).run Tryd.prog w = .ok (.func fn first cap) w := fun _ _ _ _ => rfl
  go_enter Tryd.func40, Tryd.ntmps40
  go_wp2
  go_ret
  exact ⟨rfl, rfl⟩

set_option maxRecDepth 100000 in
set_option maxHeartbeats 4000000 in
theorem lines_seq (m base B C : Nat) (s : List UInt8) (w : World) (hs : s.length ≤ 100000) (hB : B < C) (hC : C + 2 < base)
    (b0 : Blk w C 9 [.string ⟨s.toArray⟩]) (b1 : Blk w (C + 1) 9 [.string ⟨#[10]⟩]) (b2 : Blk w (C + 2) 3 [.int .i64 0]) :
    SeqC Fence.wide m Tryd.prog 70 #[.pointer (some ⟨C + 1, 0, none⟩), .pointer (some ⟨C, 0, none⟩), .pointer (some ⟨C + 2, 0, none⟩)] encL (KpB base B) (fun xs => xs = pcs s) (fun q => q <+: pcs s) C w := by
  intro l J W1 hK hJ hY h0
  have c0 : Blk W1 C 9 [.string ⟨s.toArray⟩] := (hK C (by omega) (by omega)).trans b0
  have c1 : Blk W1 (C + 1) 9 [.string ⟨#[10]⟩] := (hK (C + 1) (by omega) (by omega)).trans b1
  have c2 : Blk W1 (C + 2) 3 [.int .i64 0] := (hK (C + 2) (by omega) (by omega)).trans b2
  have q1 : W1.cell? ⟨C + 1, 0, none⟩ = some (.string ⟨#[10]⟩) := c1.cell 0
  have H0 := Lib.hid h0
  have HC0 := Lib.hid c0
  have HC1 := Lib.hid c1
  have HC2 := Lib.hid c2
  have HJ := Lib.hid hJ
  have HY := Lib.hid hY
  clear b0 b1 b2 hK h0 c0 c1 c2 hJ hY
  refine callsIn_of_wp Tryd.func70 rfl trivial ?_ rfl
  simp only [Tryd.ntmps70, List.size_toArray, List.length_cons, List.length_nil, Nat.reduceAdd, Nat.reduceSub, Array.replicate_succ, Array.replicate_zero, List.push_toArray, List.append_toArray, List.nil_append, List.cons_append]
  gi_wp2_with fail
  gi_loopw [7, 8] (fun i f wr => ∃ (pre : List (List UInt8)) (rest : List UInt8), Blk wr C 9 [.string ⟨rest.toArray⟩] ∧ Blk wr (C + 1) 9 [.string ⟨#[10]⟩] ∧ Blk wr (C + 2) 3 [.int .i64 0] ∧ J pre wr ∧ pre ++ pcs rest = pcs s ∧ rest.length ≤ s.length) (fun _ _ wr => cellLen C wr)
  case atStart => exact ⟨[], s, HC0.out, HC1.out, HC2.out, H0.out, rfl, Nat.le_refl _⟩
  case round =>
    obtain ⟨pre, rest, d0, d1, d2, hj, hp, hr⟩ := hrel
    have q0 : wr.cell? ⟨C, 0, none⟩ = some (.string ⟨rest.toArray⟩) := d0.cell 0
    have q1 : wr.cell? ⟨C + 1, 0, none⟩ = some (.string ⟨#[10]⟩) := d1.cell 0
    have q2 : wr.cell? ⟨C + 2, 0, none⟩ = some (.int .i64 0) := d2.cell 0
    have hsz := arr_size rest
    have D := Lib.hid (And.intro d0 (And.intro d1 d2))
    have HP := Lib.hid hp
    have HJR := Lib.hid hj
    clear d0 d1 d2 hp hj HC0 HC1 HC2 H0
    by_cases hm : Lib.indexByte rest 10 = -1
    · have hps := pcs_last rest hm
      obtain ⟨fn, tmps, assign, body, hy, hR⟩ := HY.out pre rest wr HJR.out (by rw [← HP.out, hps]; exact ⟨[], by simp⟩)
      have hy' : (Instr.yield l #[.string ⟨rest.toArray⟩]).run Tryd.prog wr = .ok (.round l fn tmps assign body) wr := hy
      have I1 : Hid (∀ W, CallsIn Fence.wide (m - 1) Tryd.prog 64 #[.string ⟨rest.toArray⟩, .string ⟨#[10]⟩] W fun e w' => e = .returned (.int .i64 (-1)) ∧ W = w') := Lib.hid fun W => by
        have h := index_one rest 10 W
        rw [hm] at h
        exact callsIn_wide.2 (h.mono fun e w' ⟨a, b⟩ => ⟨a, b.symm⟩)
      have HPS := Lib.hid hps
      have HRR := Lib.hid hR
      clear hy hR hm hps
      gi_wp2_with (refine ⟨trivial, fun h => (by cases h), ?_⟩; gi_at_call 64; refine (I1.out _).mono ?_; rintro e w' ⟨rfl, rfl⟩)
      refine ⟨fun h => (by cases h), ?_⟩
      refine HRR.out.mono ?_
      rintro e W3 ⟨rfl, hj3, hk3⟩
      have HF := Lib.hid hj3
      clear hj3 hk3 HRR HY HJ
      gi_wp2_with fail
      go_end0
      refine ⟨⟨_, rfl⟩, _, ?_, HF.out⟩
      rw [← HP.out, HPS.out]
    · obtain ⟨i, hi⟩ : ∃ i : Nat, Lib.indexByte rest 10 = (i : Int) := by
        have := Lib.indexByte_ge rest 10
        exact ⟨(Lib.indexByte rest 10).toNat, by omega⟩
      obtain ⟨hil, hps⟩ := pcs_step rest i hi
      obtain ⟨fn, tmps, assign, body, hy, hR⟩ := HY.out pre (rest.take i) wr HJR.out (by rw [← HP.out, hps]; exact ⟨pcs (rest.drop (i + 1)), by simp⟩)
      have hy' : (Instr.yield l #[.string ⟨(rest.take i).toArray⟩]).run Tryd.prog wr = .ok (.round l fn tmps assign body) wr := hy
      have I1 : Hid (∀ W, CallsIn Fence.wide (m - 1) Tryd.prog 64 #[.string ⟨rest.toArray⟩, .string ⟨#[10]⟩] W fun e w' => e = .returned (.int .i64 (i : Int)) ∧ W = w') := Lib.hid fun W => by
        have h := index_one rest 10 W
        rw [hi] at h
        exact callsIn_wide.2 (h.mono fun e w' ⟨a, b⟩ => ⟨a, b.symm⟩)
      have k1 := str_to rest i (by omega)
      have k2 := str_from rest (i + 1) (by omega)
      have c1 : ((i + 1 : Nat) : Int) = (i : Int) + 1 := by omega
      rw [c1] at k2
      have hdl : (rest.drop (i + 1)).length < rest.length := by rw [List.length_drop]; omega
      have HPS := Lib.hid hps
      have HRR := Lib.hid hR
      clear hy hR hm hps c1 hi
      gi_wp2_with (refine ⟨trivial, fun h => (by cases h), ?_⟩; gi_at_call 64; refine (I1.out _).mono ?_; rintro e w' ⟨rfl, rfl⟩)
      refine ⟨fun h => (by cases h), ?_⟩
      refine HRR.out.mono ?_
      rintro e W3 ⟨rfl, hj3, hk3⟩
      have e0 : Blk W3 C 9 [.string ⟨rest.toArray⟩] := (hk3 C (by omega) (by omega)).trans D.out.1
      have e1 : Blk W3 (C + 1) 9 [.string ⟨#[10]⟩] := (hk3 (C + 1) (by omega) (by omega)).trans D.out.2.1
      have e2 : Blk W3 (C + 2) 3 [.int .i64 0] := (hk3 (C + 2) (by omega) (by omega)).trans D.out.2.2
      have r0 : W3.cell? ⟨C, 0, none⟩ = some (.string ⟨rest.toArray⟩) := e0.cell 0
      have r1 : W3.cell? ⟨C + 1, 0, none⟩ = some (.string ⟨#[10]⟩) := e1.cell 0
      have f0 : W3.frozen? ⟨C, 0, none⟩ = false := e0.frozen (by simp)
      obtain ⟨dr, hdr⟩ : ∃ dr, rest.drop (i + 1) = dr := ⟨_, rfl⟩
      have E : Hid (Blk (W3.setCell ⟨C, 0, none⟩ (.string ⟨dr.toArray⟩)) C 9 [.string ⟨dr.toArray⟩] ∧ Blk (W3.setCell ⟨C, 0, none⟩ (.string ⟨dr.toArray⟩)) (C + 1) 9 [.string ⟨#[10]⟩] ∧ Blk (W3.setCell ⟨C, 0, none⟩ (.string ⟨dr.toArray⟩)) (C + 2) 3 [.int .i64 0] ∧ J (pre ++ [rest.take i]) (W3.setCell ⟨C, 0, none⟩ (.string ⟨dr.toArray⟩))) :=
        Lib.hid ⟨e0.set 0 _, (Below.heap_setCell _ _ _ _ (by simp only; omega)).trans e1, (Below.heap_setCell _ _ _ _ (by simp only; omega)).trans e2, HJ.out _ _ _ _ hj3 (grownBy_setCell' W3 C _) (fun r e => by cases e; rfl)⟩
      rw [hdr] at k2 hdl HPS
      have HD := Lib.hid hdr
      clear hj3 hk3 HRR HY HJ e0 e1 e2 hdr
      gi_wp2_with fail
      go_roundw
      case rel =>
        refine ⟨_, dr, E.out.1, E.out.2.1, E.out.2.2.1, E.out.2.2.2, ?_, by omega⟩
        rw [← HP.out, HPS.out]
        simp
      case measure =>
        rw [cellLen_of E.out.1, cellLen_of D.out.1]
        exact hdl
end Go.Proofs.YteckiifnldcjbaaDoor
