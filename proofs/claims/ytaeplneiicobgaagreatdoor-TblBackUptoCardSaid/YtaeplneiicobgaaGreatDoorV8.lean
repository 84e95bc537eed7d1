/- The program's own for tables, printed: a cell's text. A table's reader: what it holds, and what its methods leave as it was. A table's reader: the number of the line that was read last; what is told; its lines, one by one. -/
import Derived.Test.YtaeplneiicobgaaGreatDoorV6
import Derived.Test.YtaeplneiicobgaaGreatDoorQ2
import Derived.Lib.RuneBytes
import Derived.Test.YtaeplneiicobgaaGreatDoorV0
import Derived.Test.YtaeplneiicobgaaGreatDoorJK
import Derived.Test.YtaeplneiicobgaaGreatDoorDj
import Derived.Test.YtaeplneiicobgaaGreatDoorEc
import Derived.Test.YtaeplneiicobgaaGreatDoorV7
import Derived.Test.YtaeplneiicobgaaGreatDoorV4
import Derived.BigQuiet
import Derived.Sort.QuietIn
set_option linter.unusedVariables false
set_option linter.unusedSimpArgs false
namespace Go.Proofs.YtaeplneiicobgaaGreatDoor
open Go.RowKit
attribute [local go_sem ↓ high] binop_eqlS binop_neqS
theorem bareG_low {g : Gly} (h : bareG g = true) : 32 ≤ g.1 ∧ g.1 ≤ 126 := by
  unfold bareG at h
  simp only [Bool.and_eq_true, Bool.or_eq_true, beq_iff_eq, decide_eq_true_eq] at h
  omega
theorem runeCells_bare {g : Gly} (h : bareG g = true) : Lib.runeCells g.1 = Lib.byteCells [UInt8.ofNat g.1.toNat] := by
  have hr := bareG_low h
  have ht : (UInt8.ofNat g.1.toNat).toNat = g.1.toNat := by
    rw [UInt8.toNat_ofNat']
    omega
  unfold Lib.runeCells Lib.byteCells
  rw [Lib.encodeRuneZ_one (by omega) (by omega)]
  simp only [List.map_cons, List.map_nil, ht]
  rw [show ((g.1.toNat : Nat) : Int) = g.1 by omega]
theorem cellT_snoc (l : List Gly) (g : Gly) : cellT (l ++ [g]) = cellT l ++ [UInt8.ofNat g.1.toNat] := by simp [cellT]
theorem cellT_len (l : List Gly) : (cellT l).length = l.length := by simp [cellT]
set_option maxRecDepth 100000 in
set_option maxHeartbeats 2000000 in
theorem silent_any (r : Int) (w : World) (h0 : 32 ≤ r) (h1 : r ≤ 126) : Calls Tryz.prog 57 #[.int .i32 r] w fun e w' => e = .returned (.bool false) ∧ w = w' := by
  have d1 : ¬ r < 32 := by omega
  have d2 : ¬ 127 ≤ r := by omega
  have d3 : ¬ r = 8232 := by omega
  have d4 : ¬ r = 8233 := by omega
  go_enter Tryz.func57, Tryz.ntmps57
  go_wp2_with fail
  go_ret
  simp [d1, d2, d3, d4]
set_option maxRecDepth 100000 in
set_option maxHeartbeats 4000000 in
theorem text_any9 (l : List Gly) (v : Value) (w : World) (hv : Gs w v l) (hb : l.all bareG = true) (hl : l.length ≤ 90000) :
    Calls Tryz.prog 38 #[v] w fun e w' => e = .returned (.string ⟨(cellT l).toArray⟩) ∧ Below w.heap.size w w' := by
  have HV := Lib.hid hv
  obtain ⟨va, vc, rfl⟩ := hv.len
  clear hv
  go_enter Tryz.func38, Tryz.ntmps38
  go_wp2_with fail
  have HD0 : Hid (Bd9 w.heap.size w.heap.size [] (w.alloc (.cells #[.pointer none, .slice none 0 0] 72))) := Lib.hid (Bd9.new w)
  have HB0 := Lib.hid (below_lit w (.cells #[.pointer none, .slice none 0 0] 72))
  have HA : Hid (∀ g ∈ l, bareG g = true) := Lib.hid (List.all_eq_true.1 hb)
  clear hb
  go_loopw [8] (fun i wr => ∃ j : Nat, j ≤ l.length ∧ i = .int .i64 j ∧ Hid (Bd9 w.heap.size w.heap.size (cellT (l.take j)) wr) ∧ Hid (Below w.heap.size w wr)) (fun i _ => l.length - (intOf i).toNat)
  case atStart => exact ⟨0, by omega, rfl, HD0, HB0⟩
  case round =>
    obtain ⟨j, hj, rfl, HD, BW⟩ := hrel
    clear HD0 HB0
    by_cases hlt : j < l.length
    · obtain ⟨z, hz⟩ : ∃ z, l[j]? = some z := ⟨l[j], List.getElem?_eq_getElem hlt⟩
      have hbz := HA.out z (List.mem_of_getElem? hz)
      obtain ⟨g, off, rfl, c0, c1, -⟩ := Gs.at (Fs.below HV.out BW.out) hz
      have hi0 : (j : Int) < (l.length : Int) := by omega
      have hi1 : (0 : Int) ≤ (j : Int) := by omega
      have hlow := bareG_low hbz
      have HTS : Hid (cellT (l.take (j + 1)) = cellT (l.take j) ++ [UInt8.ofNat z.1.toNat]) := Lib.hid (by rw [take_one9 hz, cellT_snoc])
      have hrc := runeCells_bare hbz
      have hlen : (cellT (l.take j)).length ≤ 90000 := by rw [cellT_len, List.length_take]; omega
      obtain ⟨z0, z1⟩ := z
      simp only at c0 c1 hlow hrc HTS
      have bl := below_lit wr (.cells #[.int .i32 z0, .int .u8 z1] 43)
      have BL := Lib.hid (BW.out.trans (bl.mono BW.out.size))
      have HDL := Lib.hid (HD.out.keep bl)
      have kX : Blk (wr.alloc (.cells #[.int .i32 z0, .int .u8 z1] 43)) wr.heap.size 43 [.int .i32 z0, .int .u8 z1] := heap_alloc_new wr _
      obtain ⟨A, hA⟩ : ∃ A, wr.alloc (.cells #[.int .i32 z0, .int .u8 z1] 43) = A := ⟨_, rfl⟩
      rw [hA] at BL HDL kX
      have e0 : A.cell? ⟨wr.heap.size, 0, none⟩ = some (.int .i32 z0) := kX.cell 0
      have SI : Hid (Calls Tryz.prog 57 #[.int .i32 z0] A fun e w' => e = .returned (.bool false) ∧ A = w') := Lib.hid (silent_any z0 A hlow.1 hlow.2)
      have WR : Hid (Calls Tryz.prog 58 #[.pointer (some ⟨w.heap.size, 0, none⟩), .int .i32 z0] A fun e w' => ∃ u, e = .returned u ∧ Hid (Bd9 w.heap.size w.heap.size (cellT (l.take (j + 1))) w') ∧ Hid (Below w.heap.size w w')) := Lib.hid (by
        refine (wrune_any w.heap.size w.heap.size _ z0 (by omega) (by omega) A HDL.out (by rw [Lib.byteCells_length]; omega) BL.out.size).mono ?_
        rintro e w' ⟨rfl, q1, q2, q3⟩
        refine ⟨_, rfl, Lib.hid ?_, Lib.hid (BL.out.trans q2)⟩
        rw [HTS.out]
        have e2 : Lib.byteCells (cellT (l.take j) ++ [UInt8.ofNat z0.toNat]) = Lib.byteCells (cellT (l.take j)) ++ Lib.runeCells z0 := by rw [hrc]; simp [Lib.byteCells]
        show Lib.IsBuilderF _ _ _ _ (Lib.byteCells _) w'
        rw [e2]
        exact q1)
      clear hz hbz hrc hlen bl kX HD BW HDL HTS
      go_wp2_with (first
        | (go_at_call 57; refine SI.out.mono ?_; rintro e w' ⟨rfl, rfl⟩)
        | (go_at_call 58; refine WR.out.mono ?_; rintro e w2 ⟨u, rfl, d2, b2⟩))
      go_roundw
      case rel => exact ⟨j + 1, by omega, by go_num, d2, b2⟩
      case measure => (simp [intOf]; try omega)
    · obtain rfl : j = l.length := by omega
      have hlt' : ¬ (l.length : Int) < (l.length : Int) := by omega
      rw [List.take_length] at HD
      have BS : Hid (Calls Tryz.prog 35 #[.pointer (some ⟨w.heap.size, 0, none⟩)] wr fun e w' => e = .returned (.string ⟨(cellT l).toArray⟩) ∧ Hid (Below w.heap.size w w')) := Lib.hid ((bstring_any w.heap.size w.heap.size (cellT l) wr HD.out BW.out.size).mono fun e w' ⟨h1, _, h2, _⟩ => ⟨h1, Lib.hid (BW.out.trans h2)⟩)
      clear HD BW
      go_wp2_with (go_at_call 35; refine BS.out.mono ?_; rintro e w2 ⟨rfl, b2⟩)
      go_ret
      exact ⟨rfl, b2.out⟩
/-- A text that is told as one. -/
def grdT (al : Bool) (s : Txt) : Txt := if s = [95] ∨ s = [61] ∨ s = tbW ∨ (s = [] ∧ al = true) then 92 :: 38 :: s else s
attribute [local go_sem ↓ high] binop_addS
set_option maxRecDepth 100000 in
set_option maxHeartbeats 4000000 in
theorem guarded_any9 (s : Txt) (al : Bool) (w : World) (hs : s.length ≤ 100000) :
    Calls Tryz.prog 37 #[.string ⟨s.toArray⟩, .bool al] w fun e w' => e = .returned (.string ⟨(grdT al s).toArray⟩) ∧ Below w.heap.size w w' := by
  obtain ⟨b0, h0⟩ : ∃ b, decide (s = []) = b := ⟨_, rfl⟩
  obtain ⟨b1, h1⟩ : ∃ b, decide (s = [95]) = b := ⟨_, rfl⟩
  obtain ⟨b2, h2⟩ : ∃ b, decide (s = [61]) = b := ⟨_, rfl⟩
  obtain ⟨b3, h3⟩ : ∃ b, decide (s = tbW) = b := ⟨_, rfl⟩
  have e0 : ∀ W, (eqlS (.string ⟨s.toArray⟩) (.string ⟨#[]⟩)).run Tryz.prog W = .ok (.bool b0) W := fun W => by have := eqlS_run s [] W; rw [h0] at this; exact this
  have e1 : ∀ W, (eqlS (.string ⟨s.toArray⟩) (.string ⟨#[95]⟩)).run Tryz.prog W = .ok (.bool b1) W := fun W => by have := eqlS_run s [95] W; rw [h1] at this; exact this
  have e2 : ∀ W, (eqlS (.string ⟨s.toArray⟩) (.string ⟨#[61]⟩)).run Tryz.prog W = .ok (.bool b2) W := fun W => by have := eqlS_run s [61] W; rw [h2] at this; exact this
  have e3 : ∀ W, (eqlS (.string ⟨s.toArray⟩) (.string ⟨#[84, 123]⟩)).run Tryz.prog W = .ok (.bool b3) W := fun W => by have := eqlS_run s tbW W; rw [h3] at this; exact this
  obtain ⟨u, hu⟩ : ∃ u, 92 :: 38 :: s = u := ⟨_, rfl⟩
  have a1 : ∀ W, (addS (.string ⟨#[92, 38]⟩) (.string ⟨s.toArray⟩)).run Tryz.prog W = .ok (.string ⟨u.toArray⟩) W := fun W => by rw [← hu]; exact str_add [92, 38] s (by simp; omega) W
  have hg : grdT al s = if b1 || b2 || b3 || (b0 && al) then u else s := by
    rw [← h0, ← h1, ← h2, ← h3, ← hu]
    unfold grdT
    by_cases q1 : s = [95] <;> by_cases q2 : s = [61] <;> by_cases q3 : s = tbW <;> by_cases q0 : s = [] <;> cases al <;> simp [q0, q1, q2, q3]
  have hx : b0 = true → b1 = false ∧ b2 = false ∧ b3 = false := by
    rw [← h0, ← h1, ← h2, ← h3]
    intro q
    rw [of_decide_eq_true q]
    exact ⟨by decide, by decide, by decide⟩
  rw [hg]
  clear hg h0 h1 h2 h3 hu
  cases b0
  · clear hx
    cases b1
    · cases b2
      · cases b3
        all_goals
          go_enter Tryz.func37, Tryz.ntmps37
          go_wp2_with fail
          go_ret
          exact ⟨by simp, Below.refl _ _⟩
      · go_enter Tryz.func37, Tryz.ntmps37
        go_wp2_with fail
        go_ret
        exact ⟨by simp, Below.refl _ _⟩
    · go_enter Tryz.func37, Tryz.ntmps37
      go_wp2_with fail
      go_ret
      exact ⟨by simp, Below.refl _ _⟩
  · obtain ⟨rfl, rfl, rfl⟩ := hx rfl
    cases al
    all_goals
      go_enter Tryz.func37, Tryz.ntmps37
      go_wp2_with fail
      go_ret
      exact ⟨by simp, Below.refl _ _⟩
end Go.Proofs.YtaeplneiicobgaaGreatDoor
namespace Go.Proofs.YtaeplneiicobgaaGreatDoor
open Go.RowKit
/-- What a reader has told so far: how many lines it has read, columns, rows, box, all lines, what is wrong. -/
structure RS where
  k : Nat
  cols : Txt
  rows : List Trow
  bx : Bool
  al : Bool
  d : List Dgn
abbrev rdC (line : Int) (vl : Value) (s : RS) (vr vd : Value) : List Value := [.int .i64 line, vl, .int .i64 (s.k : Int), .string ⟨s.cols.toArray⟩, vr, .bool s.bx, .bool s.al, vd]
structure RI (w : World) (B : Nat) (line : Int) (vl : Value) (s : RS) (W : World) : Prop where
  sz : w.heap.size ≤ B
  bel : Below w.heap.size w W
  val : ∃ vr vd, Blk W B 46 (rdC line vl s vr vd) ∧ WInv w.heap.size W vr s.rows ∧ DOwn w.heap.size W vd s.d
/-- All stands but the reader's own block, and rows of what is wrong; of the reader's the rows of the table do. -/
structure FrR (W W' : World) : Prop where
  size : W.heap.size ≤ W'.heap.size
  same : ∀ (g : Nat) (o : Obj), W.heap[g]? = some o → (∀ cur fz, o ≠ Obj.cells cur 46 fz) → (∀ cur fz, o ≠ Obj.cells cur 87 fz) → W'.heap[g]? = some o
  rw4 : ∀ (B : Nat) (x : Value), W.cell? ⟨B, 4, none⟩ = some x → (∃ cur fz, W.heap[B]? = some (Obj.cells cur 46 fz)) → W'.cell? ⟨B, 4, none⟩ = some x ∧ ∃ cur fz, W'.heap[B]? = some (Obj.cells cur 46 fz)
theorem FrR.refl (W : World) : FrR W W := ⟨Nat.le_refl _, fun _ _ h _ _ => h, fun B x h1 h2 => ⟨h1, h2⟩⟩
theorem FrR.trans {a b c : World} (h : FrR a b) (k : FrR b c) : FrR a c := ⟨Nat.le_trans h.size k.size, fun g o ho h1 h2 => k.same g o (h.same g o ho h1 h2) h1 h2, fun B x h1 h2 => k.rw4 B x (h.rw4 B x h1 h2).1 (h.rw4 B x h1 h2).2⟩
theorem FrR.below {W W' : World} (h : Below W.heap.size W W') : FrR W W' := ⟨h.size, fun g o ho _ _ => (h.block g (Array.getElem?_eq_some_iff.1 ho).1).trans ho, fun B x h1 ⟨cur, fz, h2⟩ => ⟨(h.cell (p := ⟨B, 4, none⟩) (Array.getElem?_eq_some_iff.1 h2).1).trans h1, cur, fz, (h.block B (Array.getElem?_eq_some_iff.1 h2).1).trans h2⟩⟩
theorem FrR.set {W : World} {B : Nat} {L : List Value} (h : Blk W B 46 L) (j : Nat) (v : Value) (hj : j ≠ 4 := by decide) : FrR W (W.setCell ⟨B, j, none⟩ v) := by
  refine ⟨(Below.refl 0 W).setCell (p := ⟨B, j, none⟩) (Nat.zero_le _) v |>.size, fun g o ho h1 _ => ?_, fun B' x h1 h2 => ?_⟩
  · rw [Below.heap_setCell _ _ _ _ (fun e => by
      have e : g = B := e
      have k : W.heap[B]? = some (.cells L.toArray 46 (0, 0)) := h
      rw [← e, ho] at k
      injection k with k
      exact h1 _ _ k)]
    exact ho
  · by_cases e : B' = B
    · subst e
      have h3 := h.set j v
      refine ⟨?_, _, _, h3⟩
      rw [h3.cell 4, ← h1, h.cell 4, List.getElem?_set_ne hj]
    · obtain ⟨cur, fz, h2⟩ := h2
      have h3 : (W.setCell ⟨B, j, none⟩ v).heap[B']? = W.heap[B']? := Below.heap_setCell _ _ _ _ (fun q => e q)
      exact ⟨(World.cell?_of_block h3).trans h1, cur, fz, h3.trans h2⟩
theorem FrR.grown {W W' : World} {row : Option Nat} (hg : W.grownBy W' row) (hr : ∀ g, row = some g → ∃ cur fz, W.heap[g]? = some (.cells cur 87 fz)) : FrR W W' :=
  ⟨hg.size, fun g o ho _ h2 => (hg.block g (Array.getElem?_eq_some_iff.1 ho).1 (fun e => by
    obtain ⟨cur, fz, hc⟩ := hr g e.symm
    rw [ho] at hc
    injection hc with hc
    exact h2 _ _ hc)).trans ho, fun B x h1 ⟨cur, fz, h2⟩ => by
    have h3 : W'.heap[B]? = W.heap[B]? := hg.block B (Array.getElem?_eq_some_iff.1 h2).1 (fun e => by
      obtain ⟨cur', fz', hc⟩ := hr B e.symm
      rw [h2] at hc
      injection hc with hc
      injection hc with _ hc
      exact absurd hc (by decide))
    exact ⟨(World.cell?_of_block h3).trans h1, cur, fz, h3.trans h2⟩⟩
theorem FrR.sam {W W' : World} (h : FrR W W') {e : TypeId} (base : Nat) (h1 : e ≠ 46) (h2 : e ≠ 87) : SamT e base W W' := fun g cur fz _ hg =>
  h.same g _ hg (fun c f q => by injection q with _ q; exact h1 q) (fun c f q => by injection q with _ q; exact h2 q)
theorem FrR.blk {W W' : World} (h : FrR W W') {g e : Nat} {L : List Value} (hb : Blk W g e L) (h1 : e ≠ 46) (h2 : e ≠ 87) : Blk W' g e L := hb.sam (Nat.zero_le _) (h.sam 0 h1 h2)
theorem FrR.ko {W W' : World} (h : FrR W W') : KeepsOthers W W' := ⟨h.size, fun k o hk ho => h.same k o hk (fun c f q => by subst q; cases ho) (fun c f q => by subst q; cases ho)⟩
theorem SamT.others {e : TypeId} {base B : Nat} {A A' : World} {row : Option Nat} (hg : A.grownBy A' row) (hr : ∀ r, row = some r → B ≤ r ∧ ∃ o : Obj, A.heap[r]? = some o ∧ o.isCells = false) : SamT e base A A' := fun g cur fz _ h =>
  (hg.block g (Array.getElem?_eq_some_iff.1 h).1 (fun q => by
    obtain ⟨-, o, ho, hc⟩ := hr g q.symm
    rw [h] at ho
    cases ho
    cases hc)).trans h
section
variable {w W W' : World} {B : Nat} {line : Int} {vl : Value} {s : RS}
theorem RI.lt (h : RI w B line vl s W) : B < W.heap.size := by
  obtain ⟨vr, vd, hb, -, -⟩ := h.val
  exact (Array.getElem?_eq_some_iff.1 hb).1
theorem RI.keep (h : RI w B line vl s W) (hb : Below W.heap.size W W') : RI w B line vl s W' := by
  obtain ⟨vr, vd, h1, h2, h3⟩ := h.val
  exact ⟨h.sz, h.bel.trans (hb.mono h.bel.size), vr, vd, h1.below hb, h2.keep hb, h3.keep hb⟩
theorem RI.fr0 {B' : Nat} (hB : w.heap.size ≤ B') : Fr0 B' (RI w B line vl s) := by
  intro A A' row h hg hr
  obtain ⟨vr, vd, h1, h2, h3⟩ := h.val
  exact ⟨h.sz, h.bel.grown hg h.bel.size (fun k e => Nat.le_trans hB (hr k e).1), vr, vd, h1.sam (Nat.zero_le _) (SamT.others hg hr), h2.sam (SamT.others hg hr) (SamT.others hg hr) (SamT.others hg hr), h3.sam (SamT.others hg hr)⟩
/-- A cell of the reader's is written that holds neither rows nor what is wrong. -/
theorem RI.put (h : RI w B line vl s W) {s' : RS} (j : Nat) (v : Value) (hr : s'.rows = s.rows) (hd : s'.d = s.d) (hl : ∀ vr vd, (rdC line vl s vr vd).set j v = rdC line vl s' vr vd) : RI w B line vl s' (W.setCell ⟨B, j, none⟩ v) := by
  obtain ⟨vr, vd, h1, h2, h3⟩ := h.val
  refine ⟨h.sz, h.bel.setCell (p := ⟨B, j, none⟩) h.sz _, vr, vd, hl vr vd ▸ h1.set j v, ?_, ?_⟩
  · rw [hr]; exact h2.sam (SamT.set h1 (by decide) _ _) (SamT.set h1 (by decide) _ _) (SamT.set h1 (by decide) _ _)
  · rw [hd]; exact h3.sam (SamT.set h1 (by decide) _ _)
theorem RI.frp (h : RI w B line vl s W) (j : Nat) (v : Value) (hj : j ≠ 4 := by decide) : FrR W (W.setCell ⟨B, j, none⟩ v) := by
  obtain ⟨vr, vd, h1, h2, h3⟩ := h.val
  exact FrR.set h1 j v hj
/-- Something more that is wrong. -/
theorem RI.tell (h : RI w B line vl s W) (x : Dgn) (hD : s.d.length ≤ 500000) :
    ∃ a c a' c' w2, W.cell? ⟨B, 7, none⟩ = some (.slice a s.d.length c) ∧ (appDg #[.slice a s.d.length c, .slice (some ⟨W.heap.size, 0, none⟩) 1 1]).run Tryz.prog (W.alloc (.cells (edcell x).toArray 87)) = .ok (.value (.slice a' (s.d.length + 1) c')) w2 ∧ w2.cell? ⟨B, 7, none⟩ = some (.slice a s.d.length c) ∧ w2.frozen? ⟨B, 7, none⟩ = false ∧
      RI w B line vl { s with d := s.d ++ [x] } (w2.setCell ⟨B, 7, none⟩ (.slice a' (s.d.length + 1) c')) ∧ FrR W (w2.setCell ⟨B, 7, none⟩ (.slice a' (s.d.length + 1) c')) ∧
      ∀ h, h < W.heap.size → h ≠ B → (Value.slice a s.d.length c).ownBlock ≠ some h → (w2.setCell ⟨B, 7, none⟩ (.slice a' (s.d.length + 1) c')).heap[h]? = W.heap[h]? ∧ (Value.slice a' (s.d.length + 1) c').ownBlock ≠ some h := by
  have b1 := below_lit W (.cells (edcell x).toArray 87)
  have hb0 := h.bel.size
  obtain ⟨vr, vd, h1, h2, h3⟩ := h.val
  obtain ⟨a, c, rfl⟩ := (FOwn.sl edcell_len h3).len
  have k1 := h1.below b1
  have k3 := h3.keep b1
  have hsz : (W.alloc (.cells (edcell x).toArray 87)).heap.size = W.heap.size + 1 := World.size_alloc ..
  obtain ⟨vd', w2, hrun, ho, hg, hown⟩ := appDg_own k3 (fs_lit edcell_len W 87 [x]) (by omega) (by simp; omega)
  obtain ⟨a', c', rfl⟩ := (FOwn.sl edcell_len ho).len
  have hl : (s.d ++ [x]).length = s.d.length + 1 := by simp
  rw [hl] at hrun ho
  have hty : ∀ g, (Value.slice a s.d.length c).ownBlock = some g → ∃ cur fz, (W.alloc (.cells (edcell x).toArray 87)).heap[g]? = some (.cells cur 87 fz) := fun g hg' => by
    obtain ⟨-, cur, hc⟩ := k3.ty hg'
    exact ⟨cur, _, hc⟩
  have f1 : FrR W w2 := (FrR.below b1).trans (FrR.grown hg hty)
  have sm : ∀ {e : TypeId}, e ≠ 87 → SamT e w.heap.size (W.alloc (.cells (edcell x).toArray 87)) w2 := fun he => SamT.grown hg hty he
  have blk2 : Blk w2 B 46 (rdC line vl s vr (.slice a s.d.length c)) := k1.sam h.sz (sm (by decide))
  refine ⟨a, c, a', c', w2, h1.cell 7, ?_, blk2.cell 7, blk2.frozen (by simp), ?_, f1.trans (FrR.set blk2 7 _), ?_⟩
  · exact hrun
  · refine ⟨h.sz, (((h.bel.trans (b1.mono hb0)).grown hg (by omega) (fun j e => (k3.ty e).1)).setCell (p := ⟨B, 7, none⟩) h.sz _), vr, _, blk2.set 7 _, ?_, ho.sam (SamT.set blk2 (by decide) _ _)⟩
    exact (((h2.keep b1).sam (sm (by decide)) (sm (by decide)) (sm (by decide))).sam (SamT.set blk2 (by decide) _ _) (SamT.set blk2 (by decide) _ _) (SamT.set blk2 (by decide) _ _))
  · intro h hlt hne hoe
    refine ⟨?_, ?_⟩
    · rw [Below.heap_setCell _ _ _ _ (fun e => hne e), hg.block h (by omega) (fun e => hoe e.symm)]
      exact b1.block h hlt
    · rw [hl] at hown
      rcases hown with e | e
      · rw [e]; exact hoe
      · rw [e, hsz]; intro q; injection q with q; omega
end
end Go.Proofs.YtaeplneiicobgaaGreatDoor
namespace Go.Proofs.YtaeplneiicobgaaGreatDoor
open Go.RowKit
section
attribute [local go_sem ↓ high] builtin_appDg
set_option maxRecDepth 100000 in
set_option maxHeartbeats 1000000 in
theorem at9_any {w : World} {B : Nat} {line : Int} {vl : Value} {s : RS} (W : World) (h : RI w B line vl s W) (h0 : 0 ≤ line) (h1 : line ≤ 100000) (hk : s.k ≤ 1000000) :
    Calls Tryz.prog 25 #[.pointer (some ⟨B, 0, none⟩)] W fun e W' => e = .returned (.int .i64 (line + s.k - 1)) ∧ Below W.heap.size W W' := by
  obtain ⟨vr, vd, hb, -, -⟩ := h.val
  have c0 : W.cell? ⟨B, 0, none⟩ = some (.int .i64 line) := hb.cell 0
  have c2 : W.cell? ⟨B, 2, none⟩ = some (.int .i64 (s.k : Int)) := hb.cell 2
  obtain ⟨k, hk'⟩ : ∃ k : Int, (s.k : Int) = k := ⟨_, rfl⟩
  rw [hk'] at c2 ⊢
  have w1 : IntKind.i64.wrap (line + k) = line + k := wrap_any9 (by omega) (by omega)
  have w2 : IntKind.i64.wrap (line + k - 1) = line + k - 1 := wrap_any9 (by omega) (by omega)
  have HB := Lib.hid (fun m => below_drewN (Below.refl W.heap.size W) m)
  clear hb h hk' hk
  go_enter Tryz.func25, Tryz.ntmps25
  go_wp2_with fail
  go_quiet (fail)
  go_wp2_with fail
  go_ret
  exact ⟨rfl, HB.out _⟩
set_option maxRecDepth 100000 in
set_option maxHeartbeats 1000000 in
theorem tell9_any {w : World} {B : Nat} {line : Int} {vl : Value} {s : RS} (W : World) (h : RI w B line vl s W) (k ln : Int) (hD : s.d.length ≤ 500000) :
    Calls Tryz.prog 24 #[.pointer (some ⟨B, 0, none⟩), .int .i64 k, .int .i64 ln] W fun e W' => e = .returned (.tuple #[]) ∧ RI w B line vl { s with d := s.d ++ [(k, ln, 0)] } W' ∧ FrR W W' := by
  obtain ⟨a, c, a', c', w2, c7, hr, q7, f7, hRI, hF, -⟩ := h.tell (k, ln, 0) hD
  have hr' : (appDg #[.slice a s.d.length c, .slice (some ⟨W.heap.size, 0, none⟩) 1 1]).run Tryz.prog (W.alloc (.cells #[.int .i64 k, .int .i64 ln, .int .i64 0] 87)) = .ok (.value (.slice a' (s.d.length + 1) c')) w2 := hr
  obtain ⟨m, hm⟩ : ∃ m, s.d.length = m := ⟨_, rfl⟩
  rw [hm] at c7 hr' q7 hRI hF
  have HR := Lib.hid hRI
  have HF := Lib.hid hF
  clear hr hRI hF h hm hD
  go_enter Tryz.func24, Tryz.ntmps24
  go_wp2_with fail
  go_end0
  exact ⟨rfl, HR.out, HF.out⟩
end
theorem left9_any (B : Nat) (W : World) : Calls Tryz.prog 13 #[.pointer (some ⟨B, 0, none⟩)] W fun e w' =>
    e = .returned (.func (.func 27) #[] #[.pointer (some ⟨W.heap.size, 0, none⟩)]) ∧ W.alloc (.cells #[.pointer (some ⟨B, 0, none⟩)] 44) = w' := by
  have hmf : ∀ (fn : Fn) (first cap : Array Value) (w : World), (Instr.makeFunc fn first cap).run Tryz.prog w = .ok (.func fn first cap) w := fun _ _ _ _ => rfl
  go_enter Tryz.func13, Tryz.ntmps13
  go_wp2_with fail
  go_ret
  exact ⟨rfl, rfl⟩
end Go.Proofs.YtaeplneiicobgaaGreatDoor
