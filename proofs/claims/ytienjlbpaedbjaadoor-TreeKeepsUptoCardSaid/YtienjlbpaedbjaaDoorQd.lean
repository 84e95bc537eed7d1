/- The program's own for documents: may a table be? -/
import Derived.Test.YtienjlbpaedbjaaDoorQc
import Derived.Test.YtienjlbpaedbjaaDoorQ5
import Derived.Laws.EntriesVeiled
namespace Go.Proofs.YtienjlbpaedbjaaDoor
open Go.RowKit

def IdxQ (w : World) (q : Bool) (e : Ending) (w' : World) : Prop := (∃ i : Int, e = .returned (.int .i64 i) ∧ decide (0 ≤ i) = q) ∧ Below w.heap.size w w'
theorem any_nextQ {α : Type} {l : List α} {p : Nat} {y : α} {P : α → Bool} (h : (l.take p).any P = false) (hy : l[p]? = some y) (hP : P y = false) : (l.take (p + 1)).any P = false := by
  rw [List.take_add_one, hy, List.any_append, h]
  simp [hP]
theorem any_hitQ {α : Type} {l : List α} {p : Nat} {y : α} {P : α → Bool} (hy : l[p]? = some y) (hP : P y = true) : l.any P = true := List.any_eq_true.2 ⟨y, List.mem_iff_getElem?.2 ⟨p, hy⟩, hP⟩
set_option maxRecDepth 100000 in
theorem ploose_any (l : List Gly) (v : Value) (w : World) (hv : Gs w v l) (hl : l.length ≤ 90000) :
    Calls Tryd.prog 44 #[v] w fun e w' => e = .returned (.bool (!sqd l)) ∧ Below w.heap.size w w' := by
  have H := Lib.hid (psqueezed_any l v w hv hl)
  obtain ⟨p, hp⟩ : ∃ p, sqd l = p := ⟨_, rfl⟩
  rw [hp] at H ⊢
  obtain ⟨va, vc, rfl⟩ := hv.len
  clear hp hv
  go_enter Tryd.func44, Tryd.ntmps44
  go_wp2_with fail
  refine H.out.mono ?_
  rintro e w1 ⟨rfl, b1⟩
  have B1 := Lib.hid b1
  clear b1 H
  go_wp2_with fail
  go_ret
  exact ⟨rfl, B1.out⟩
def lsQ (l : List Gly) : Bool := !sqd l
set_option maxRecDepth 100000 in
set_option maxHeartbeats 2000000 in
theorem pidxrows_any (S : Nat → Prop) (l : List (List Gly)) (v : Value) (w : World) (hv : GrS S w v l) (hl : l.length + lens l ≤ 90000) (hS : ∀ x, S x → x < w.heap.size) :
    Calls Tryd.prog 78 #[v, .func (.func 44) #[] #[]] w (IdxQ w (l.any lsQ)) := by
  have HV := Lib.hid hv
  have HS := Lib.hid hS
  obtain ⟨aa, ca, rfl⟩ := hv.len
  clear hv hS
  go_enter Tryd.func78, Tryd.ntmps78
  go_wp2_with fail
  go_loopw [5, 8] (fun _ i wr => ∃ p : Nat, i = .int .i64 (p : Int) ∧ p ≤ l.length ∧ Hid ((l.take p).any lsQ = false) ∧ Hid (Below w.heap.size w wr)) (fun _ i _ => l.length - (intOf i).toNat)
  case atStart => exact ⟨0, rfl, by omega, Lib.hid (by simp), Lib.hid (Below.refl _ _)⟩
  case round =>
    obtain ⟨p, rfl, hp, HN, BB⟩ := hrel
    by_cases hlt : p < l.length
    · obtain ⟨x, hx⟩ : ∃ x, l[p]? = some x := ⟨l[p], List.getElem?_eq_getElem hlt⟩
      have HXX := Lib.hid hx
      have lx := lens_le hx
      obtain ⟨g, off, b, c, rfl, -, c0, s0⟩ := (HV.out.keep (Kp.below BB.out HS.out)).at hx
      have hlt' : (p : Int) < (l.length : Int) := by omega
      have hp0 : (0 : Int) ≤ (p : Int) := by omega
      have h1 := ploose_any x _ wr s0.1 (by omega)
      rw [show (!sqd x) = lsQ x from rfl] at h1
      have H1 := Lib.hid h1
      obtain ⟨q, hq⟩ : ∃ q, lsQ x = q := ⟨_, rfl⟩
      rw [hq] at H1
      have HQ := Lib.hid hq
      clear hx hq h1 s0
      go_wp2_with fail
      refine H1.out.mono ?_
      rintro e w1 ⟨rfl, b1⟩
      have B2 := Lib.hid (BB.out.trans (b1.mono BB.out.size))
      clear b1 H1 c0
      cases q
      · go_wp2_with fail
        go_roundw
        case rel => exact ⟨p + 1, by go_num, by omega, Lib.hid (any_nextQ HN.out HXX.out HQ.out), B2⟩
        case measure => (simp [intOf]; try omega)
      · go_wp2_with fail
        go_ret
        exact ⟨⟨(p : Int), rfl, by rw [any_hitQ HXX.out HQ.out]; simp⟩, B2.out⟩
    · obtain rfl : p = l.length := by omega
      have hlt' : ¬ (l.length : Int) < (l.length : Int) := by omega
      have hall : l.any lsQ = false := by have := HN.out; rwa [List.take_length] at this
      have HALL := Lib.hid hall
      clear hall HN
      go_wp2_with fail
      go_ret
      exact ⟨⟨(-1 : Int), rfl, by rw [HALL.out]; decide⟩, BB.out⟩
set_option maxRecDepth 100000 in
theorem pconrows_any (S : Nat → Prop) (l : List (List Gly)) (v : Value) (w : World) (hv : GrS S w v l) (hl : l.length + lens l ≤ 90000) (hS : ∀ x, S x → x < w.heap.size) :
    Calls Tryd.prog 47 #[v, .func (.func 44) #[] #[]] w fun e w' => e = .returned (.bool (l.any lsQ)) ∧ Below w.heap.size w w' := by
  have H := Lib.hid (pidxrows_any S l v w hv hl hS)
  clear hv hS
  generalize l.any lsQ = q at H ⊢
  go_enter Tryd.func47, Tryd.ntmps47
  go_wp2_with fail
  refine H.out.mono ?_
  rintro e w1 ⟨⟨i, rfl, hi⟩, b1⟩
  have HI := Lib.hid hi
  clear hi H
  go_wp2_with fail
  go_ret
  exact ⟨ret_bool HI.out, b1⟩
theorem all_any_not {α : Type} (l : List α) (P : α → Bool) : l.all P = !(l.any fun x => !P x) := by
  induction l with
  | nil => rfl
  | cons x l ih => rw [List.all_cons, List.any_cons, ih]; cases P x <;> simp
/-- What the boxes of Right hold. -/
structure RtB (B : Nat) (cols : List UInt8) (rv : Value) (gb ga : Bool) (W : World) : Prop where
  t : Blk W B 35 [.string ⟨cols.toArray⟩, rv, .bool gb, .bool ga]
  f : W.cell? ⟨B + 1, 0, none⟩ = some (.func (.func 44) #[] #[])
theorem RtB.keep {B : Nat} {cols : List UInt8} {rv : Value} {gb ga : Bool} {W W' : World} (h : RtB B cols rv gb ga W) (hb : Below W.heap.size W W') : RtB B cols rv gb ga W' :=
  ⟨h.t.below hb, (hb.cell (World.block_lt_of_cell? W _ h.f)).trans h.f⟩
set_option maxRecDepth 100000 in
set_option maxHeartbeats 2000000 in
theorem pwrong_any (S : Nat → Prop) (B : Nat) (cols : List UInt8) (rv : Value) (gb ga : Bool) (x : Bool × PV) (r : Trow) (w : World) (hx : x.1 = r.1) (hv : GrS S w (pv x.2) r.2) (hl : r.2.length + lens r.2 ≤ 90000) (hc : cols.length ≤ 1000000000) (hS : ∀ x, S x → x < w.heap.size) (hB : RtB B cols rv gb ga w) :
    Calls Tryd.prog 46 #[.agg (trcell x).toArray, .pointer (some ⟨B, 0, none⟩), .pointer (some ⟨B + 1, 0, none⟩)] w fun e w' => e = .returned (.bool (!rowOk cols.length r)) ∧ Below w.heap.size w w' := by
  obtain ⟨x1, ⟨x2, x3, x4⟩⟩ := x
  obtain ⟨b, l⟩ := r
  simp only at hx hv hl
  subst hx
  obtain ⟨va, vc, ev⟩ := hv.len
  have ev' := pv_eq ev
  injection ev' with e1 e2
  injection e2 with e2 e3
  subst e1 e2 e3
  have b1 := below_lit w (.cells (trcell (x1, (x2, l.length, x4))).toArray 60)
  have hB1 := hB.keep b1
  have hCs := bsz cols
  have k0 : (w.alloc (.cells (trcell (x1, (x2, l.length, x4))).toArray 60)).cell? ⟨B, 0, none⟩ = some (.string ⟨cols.toArray⟩) := hB1.t.cell 0
  have k1 := hB1.f
  have HC := Lib.hid (pconrows_any S l _ (w.alloc (.cells (trcell (x1, (x2, l.length, x4))).toArray 60)) (hv.keep (Kp.below b1 hS)) hl (fun x hx => Nat.lt_of_lt_of_le (hS x hx) b1.size))
  have BL := Lib.hid b1
  unfold rowOk
  rw [all_any_not]
  rw [show (fun x => !sqd x) = lsQ from rfl]
  simp only [trcell, pv] at k0 k1 HC BL ⊢
  clear hv b1 hB1 hB hS ev
  cases x1
  · by_cases hln : l.length = cols.length
    · have e1 : ((l.length : Int) != (cols.length : Int)) = false := by simp [hln]
      have HE : Hid ((!((if false = true then decide (l = []) else decide (l.length = cols.length)) && !l.any lsQ)) = l.any lsQ) := Lib.hid (by simp [hln])
      rw [HE.out]
      obtain ⟨q, hq⟩ : ∃ q, l.any lsQ = q := ⟨_, rfl⟩
      rw [hq] at HC ⊢
      clear HE hq hln
      go_enter Tryd.func46, Tryd.ntmps46
      go_wp2_with fail
      refine HC.out.mono ?_
      rintro e w1 ⟨rfl, b1⟩
      have B1 := Lib.hid (BL.out.trans (b1.mono BL.out.size))
      clear b1 HC k0 k1
      go_wp2_with fail
      go_ret
      exact ⟨rfl, B1.out⟩
    · have e1 : ((l.length : Int) != (cols.length : Int)) = true := by simp; omega
      have HE : Hid ((!((if false = true then decide (l = []) else decide (l.length = cols.length)) && !l.any lsQ)) = true) := Lib.hid (by simp [hln])
      rw [HE.out]
      clear HE hln HC
      go_enter Tryd.func46, Tryd.ntmps46
      go_wp2_with fail
      go_ret
      exact ⟨rfl, BL.out⟩
  · by_cases hne : l = []
    · subst hne
      have HE : Hid ((!((if true = true then decide (([] : List (List Gly)) = []) else decide (([] : List (List Gly)).length = cols.length)) && !([] : List (List Gly)).any lsQ)) = false) := Lib.hid (by simp)
      rw [HE.out]
      clear HE HC
      go_enter Tryd.func46, Tryd.ntmps46
      go_wp2_with fail
      go_ret
      exact ⟨rfl, BL.out⟩
    · have HE : Hid ((!((if true = true then decide (l = []) else decide (l.length = cols.length)) && !l.any lsQ)) = true) := Lib.hid (by simp [hne])
      have p0 : decide (0 < l.length) = true := decide_eq_true (List.length_pos_iff.2 hne)
      have HP0 := Lib.hid p0
      rw [HE.out]
      clear HE hne HC p0
      go_enter Tryd.func46, Tryd.ntmps46
      go_wp2_with fail
      go_ret
      exact ⟨ret_bool HP0.out, BL.out⟩
def wrQ (n : Nat) (r : Trow) : Bool := !rowOk n r
set_option maxRecDepth 100000 in
set_option maxHeartbeats 2000000 in
theorem pidxtr_any (S : Nat → Prop) (B : Nat) (cols : List UInt8) (rv : Value) (gb ga : Bool) (l : List Trow) (v : Value) (w : World) (hv : TrS S w v l) (hl : trls l ≤ 90000) (hc : cols.length ≤ 1000000000) (hS : ∀ x, S x → x < w.heap.size) (hB : RtB B cols rv gb ga w) :
    Calls Tryd.prog 80 #[v, .func (.func 46) #[] #[.pointer (some ⟨B, 0, none⟩), .pointer (some ⟨B + 1, 0, none⟩)]] w (IdxQ w (l.any (wrQ cols.length))) := by
  have HV := Lib.hid hv
  have HS := Lib.hid hS
  have HB := Lib.hid hB
  have hll := trls_len l
  obtain ⟨aa, ca, rfl⟩ := hv.len
  clear hv hS hB
  go_enter Tryd.func80, Tryd.ntmps80
  go_wp2_with fail
  go_loopw [5, 8] (fun _ i wr => ∃ p : Nat, i = .int .i64 (p : Int) ∧ p ≤ l.length ∧ Hid ((l.take p).any (wrQ cols.length) = false) ∧ Hid (Below w.heap.size w wr)) (fun _ i _ => l.length - (intOf i).toNat)
  case atStart => exact ⟨0, rfl, by omega, Lib.hid (by simp), Lib.hid (Below.refl _ _)⟩
  case round =>
    obtain ⟨p, rfl, hp, HN, BB⟩ := hrel
    by_cases hlt : p < l.length
    · obtain ⟨x, hx⟩ : ∃ x, l[p]? = some x := ⟨l[p], List.getElem?_eq_getElem hlt⟩
      have HXX := Lib.hid hx
      have lx := trls_le hx
      have tx : trl x = 1 + x.2.length + lens x.2 := rfl
      obtain ⟨g, off, b, c, rfl, -, c0, c1, s0⟩ := (HV.out.keep (Kp.below BB.out HS.out)).at hx
      have hlt' : (p : Int) < (l.length : Int) := by omega
      have hp0 : (0 : Int) ≤ (p : Int) := by omega
      have h1 := pwrong_any S B cols rv gb ga (x.1, (b, x.2.length, c)) x wr rfl s0 (by omega) hc (fun y hy => Nat.lt_of_lt_of_le (HS.out y hy) BB.out.size) (HB.out.keep BB.out)
      rw [show (!rowOk cols.length x) = wrQ cols.length x from rfl] at h1
      simp only [trcell, pv] at h1
      have H1 := Lib.hid h1
      obtain ⟨q, hq⟩ : ∃ q, wrQ cols.length x = q := ⟨_, rfl⟩
      rw [hq] at H1
      have HQ := Lib.hid hq
      clear hx hq h1 s0 tx
      go_wp2_with fail
      refine H1.out.mono ?_
      rintro e w1 ⟨rfl, b1⟩
      have B2 := Lib.hid (BB.out.trans (b1.mono BB.out.size))
      clear b1 H1 c0 c1
      cases q
      · go_wp2_with fail
        go_roundw
        case rel => exact ⟨p + 1, by go_num, by omega, Lib.hid (any_nextQ HN.out HXX.out HQ.out), B2⟩
        case measure => (simp [intOf]; try omega)
      · go_wp2_with fail
        go_ret
        exact ⟨⟨(p : Int), rfl, by rw [any_hitQ HXX.out HQ.out]; simp⟩, B2.out⟩
    · obtain rfl : p = l.length := by omega
      have hlt' : ¬ (l.length : Int) < (l.length : Int) := by omega
      have hall : l.any (wrQ cols.length) = false := by have := HN.out; rwa [List.take_length] at this
      have HALL := Lib.hid hall
      clear hall HN
      go_wp2_with fail
      go_ret
      exact ⟨⟨(-1 : Int), rfl, by rw [HALL.out]; decide⟩, BB.out⟩
set_option maxRecDepth 100000 in
theorem pcontr_any (S : Nat → Prop) (B : Nat) (cols : List UInt8) (rv : Value) (gb ga : Bool) (l : List Trow) (v : Value) (w : World) (hv : TrS S w v l) (hl : trls l ≤ 90000) (hc : cols.length ≤ 1000000000) (hS : ∀ x, S x → x < w.heap.size) (hB : RtB B cols rv gb ga w) :
    Calls Tryd.prog 49 #[v, .func (.func 46) #[] #[.pointer (some ⟨B, 0, none⟩), .pointer (some ⟨B + 1, 0, none⟩)]] w fun e w' => e = .returned (.bool (l.any (wrQ cols.length))) ∧ Below w.heap.size w w' := by
  have H := Lib.hid (pidxtr_any S B cols rv gb ga l v w hv hl hc hS hB)
  clear hv hS hB
  generalize l.any (wrQ cols.length) = q at H ⊢
  go_enter Tryd.func49, Tryd.ntmps49
  go_wp2_with fail
  refine H.out.mono ?_
  rintro e w1 ⟨⟨i, rfl, hi⟩, b1⟩
  have HI := Lib.hid hi
  clear hi H
  go_wp2_with fail
  go_ret
  exact ⟨ret_bool HI.out, b1⟩
set_option maxRecDepth 100000 in
set_option maxHeartbeats 4000000 in
theorem pright_any (S : Nat → Prop) (t : Tab) (r : PV) (w : World) (hv : TrS S w (pv r) t.rows) (hb : t.cols.length ≤ 1000000000) (hl : trls t.rows ≤ 90000) (hS : ∀ x, S x → x < w.heap.size) :
    Calls Tryd.prog 19 #[tabV t r] w fun e w' => e = .returned (.bool (rightT t)) ∧ Below w.heap.size w w' := by
  obtain ⟨cols, rows, gb, ga⟩ := t
  obtain ⟨r1, r2, r3⟩ := r
  simp only at hv hb hl
  obtain ⟨W1, hW1⟩ : ∃ W, W = (w.alloc (.cells ([.string ⟨cols.toArray⟩, .slice r1 r2 r3, .bool gb, .bool ga] : List Value).toArray 35)).alloc (.cells #[.func (.func 44) #[] #[]] 66) := ⟨_, rfl⟩
  have b2 := bel2 w (.cells ([.string ⟨cols.toArray⟩, .slice r1 r2 r3, .bool gb, .bool ga] : List Value).toArray 35) (.cells #[.func (.func 44) #[] #[]] 66)
  rw [← hW1] at b2
  have hX : Blk W1 w.heap.size 35 [.string ⟨cols.toArray⟩, .slice r1 r2 r3, .bool gb, .bool ga] := by rw [hW1]; exact (heap_alloc_old _ _ (by simp)).trans (heap_alloc_new w _)
  have hF : W1.cell? ⟨w.heap.size + 1, 0, none⟩ = some (.func (.func 44) #[] #[]) := by
    have h : Blk ((w.alloc (.cells ([.string ⟨cols.toArray⟩, .slice r1 r2 r3, .bool gb, .bool ga] : List Value).toArray 35)).alloc (.cells #[.func (.func 44) #[] #[]] 66)) (w.heap.size + 1) 66 [.func (.func 44) #[] #[]] := by
      have := heap_alloc_new (w.alloc (.cells ([.string ⟨cols.toArray⟩, .slice r1 r2 r3, .bool gb, .bool ga] : List Value).toArray 35)) (.cells #[.func (.func 44) #[] #[]] 66)
      rw [World.size_alloc] at this
      exact this
    rw [hW1]
    exact h.cell 0
  have HRB : Hid (RtB w.heap.size cols (.slice r1 r2 r3) gb ga W1) := Lib.hid ⟨hX, hF⟩
  have BW := Lib.hid b2
  have HCA := Lib.hid (pallcols_any cols W1)
  have HCR := Lib.hid (fun W (h : Below W1.heap.size W1 W) => pcontr_any S w.heap.size cols (.slice r1 r2 r3) gb ga rows (.slice r1 r2 r3) W (hv.keep (Kp.below (b2.trans (h.mono b2.size)) hS)) hl hb (fun y hy => Nat.lt_of_lt_of_le (Nat.lt_of_lt_of_le (hS y hy) b2.size) h.size) (HRB.out.keep h))
  have hCs := bsz cols
  unfold rightT
  simp only [tabV, pv]
  rw [all_any_not rows, show (fun x => !rowOk cols.length x) = wrQ cols.length from rfl]
  obtain ⟨p, hp⟩ : ∃ p, cols.all side = p := ⟨_, rfl⟩
  obtain ⟨q, hq⟩ : ∃ q, rows.any (wrQ cols.length) = q := ⟨_, rfl⟩
  rw [hp] at HCA
  rw [hq] at HCR
  rw [hp, hq]
  clear hp hq hX hF hS hv b2
  obtain ⟨n, hn⟩ : ∃ n, cols.length = n := ⟨_, rfl⟩
  rw [hn] at hCs hb ⊢
  clear hn hl
  subst hW1
  by_cases h0 : n = 0
  · subst h0
    rw [show (decide (1 ≤ 0) && decide (0 ≤ 20) && !(ga && !gb) && p && !q) = false from rfl]
    clear HCA HCR
    go_enter Tryd.func19, Tryd.ntmps19
    go_wp2_with fail
    go_ret
    exact ⟨rfl, BW.out⟩
  · have e0 : ((n : Int) == 0) = false := by simp; omega
    by_cases h1 : n ≤ 20
    · have e1 : decide ((20 : Int) < (n : Int)) = false := by simp; omega
      have e1' : ¬ (20 : Int) < (n : Int) := by omega
      cases ga
      · rw [show (decide (1 ≤ n) && decide (n ≤ 20) && !(false && !gb) && p && !q) = (p && !q) by rw [decide_eq_true (show 1 ≤ n by omega), decide_eq_true h1]; rfl]
        clear h0 h1 e1
        go_enter Tryd.func19, Tryd.ntmps19
        go_wp2_with fail
        refine HCA.out.mono ?_
        rintro e w1 ⟨rfl, b1⟩
        have B1 := Lib.hid (BW.out.trans (b1.mono BW.out.size))
        have HC1 := Lib.hid (HCR.out w1 b1)
        have y1 : w1.cell? ⟨w.heap.size, 1, none⟩ = some (.slice r1 r2 r3) := (HRB.out.keep b1).t.cell 1
        clear b1 HCA HCR
        cases p
        · go_wp2_with fail
          go_ret
          exact ⟨rfl, B1.out⟩
        · go_wp2_with fail
          refine HC1.out.mono ?_
          rintro e w2 ⟨rfl, b2⟩
          have B2 := Lib.hid (B1.out.trans (b2.mono B1.out.size))
          clear b2 HC1 y1
          go_wp2_with fail
          go_ret
          exact ⟨rfl, B2.out⟩
      · cases gb
        · rw [show (decide (1 ≤ n) && decide (n ≤ 20) && !(true && !false) && p && !q) = false by simp]
          clear h0 h1 e1 HCA HCR
          go_enter Tryd.func19, Tryd.ntmps19
          go_wp2_with fail
          go_ret
          exact ⟨rfl, BW.out⟩
        · rw [show (decide (1 ≤ n) && decide (n ≤ 20) && !(true && !true) && p && !q) = (p && !q) by rw [decide_eq_true (show 1 ≤ n by omega), decide_eq_true h1]; rfl]
          clear h0 h1 e1
          go_enter Tryd.func19, Tryd.ntmps19
          go_wp2_with fail
          refine HCA.out.mono ?_
          rintro e w1 ⟨rfl, b1⟩
          have B1 := Lib.hid (BW.out.trans (b1.mono BW.out.size))
          have HC1 := Lib.hid (HCR.out w1 b1)
          have y1 : w1.cell? ⟨w.heap.size, 1, none⟩ = some (.slice r1 r2 r3) := (HRB.out.keep b1).t.cell 1
          clear b1 HCA HCR
          cases p
          · go_wp2_with fail
            go_ret
            exact ⟨rfl, B1.out⟩
          · go_wp2_with fail
            refine HC1.out.mono ?_
            rintro e w2 ⟨rfl, b2⟩
            have B2 := Lib.hid (B1.out.trans (b2.mono B1.out.size))
            clear b2 HC1 y1
            go_wp2_with fail
            go_ret
            exact ⟨rfl, B2.out⟩
    · have e1 : (20 : Int) < (n : Int) := by omega
      rw [show (decide (1 ≤ n) && decide (n ≤ 20) && !(ga && !gb) && p && !q) = false by rw [decide_eq_false h1]; simp]
      clear h0 h1 HCA HCR
      go_enter Tryd.func19, Tryd.ntmps19
      go_wp2_with fail
      go_ret
      exact ⟨rfl, BW.out⟩
end Go.Proofs.YtienjlbpaedbjaaDoor
