/- Rows that are made and filled one by one; Of and Text, in the program and in the document's answer. The document's Of; Text, in the program and in the document's answer. -/
import Derived.Test.YtpcbbhfbldchlaaQ2
import Derived.Test.YtpcbbhfbldchlaaE1
import Derived.Deep.RegionWith
import Derived.Test.YtpcbbhfbldchlaaGx
set_option linter.unusedVariables false
set_option linter.unusedSimpArgs false
namespace Go.Proofs.Ytpcbbhfbldchlaa
open Go.RowKit
/-- The first j of D, each so set; then what is zero. -/
def ofRow (D : List Int) (s : Int) (j : Nat) : List Gly := (D.take j).map (fun r => (r, s)) ++ List.replicate (D.length - j) zg
theorem ofRow_zero (D : List Int) (s : Int) : ofRow D s 0 = List.replicate D.length zg := by simp [ofRow]
theorem ofRow_full (D : List Int) (s : Int) : ofRow D s D.length = D.map (fun r => (r, s)) := by simp [ofRow]
theorem ofRow_len (D : List Int) (s : Int) {j : Nat} (hj : j ≤ D.length) : (ofRow D s j).length = D.length := by simp [ofRow]; omega
theorem ofRow_set {D : List Int} {s : Int} {j : Nat} {r : Int} (h : D[j]? = some r) : (ofRow D s j).set j (r, s) = ofRow D s (j + 1) := by
  have hlt := (List.getElem?_eq_some_iff.1 h).1
  unfold ofRow
  have hl : ((D.take j).map fun r => (r, s)).length = j := by simp; omega
  rw [List.set_append_right _ _ (by omega), hl, Nat.sub_self]
  obtain ⟨m, hm⟩ : ∃ m, D.length - j = m + 1 := ⟨D.length - j - 1, by omega⟩
  rw [hm, List.replicate_succ, List.set_cons_zero, List.take_add_one, h, show D.length - (j + 1) = m by omega]
  simp
theorem flatV_set2 : ∀ (l : List Gly) (j : Nat) (x : Gly), j < l.length → ((flatV gcell l).set (j * 2) (.int .i32 x.1)).set (j * 2 + 1) (.int .u8 x.2) = flatV gcell (l.set j x)
  | [], j, x, h => by simp at h
  | y :: l, 0, x, h => by simp [flatV_cons, gcell]
  | y :: l, j + 1, x, h => by
    have ih := flatV_set2 l j x (by simpa using h)
    have e : (j + 1) * 2 = j * 2 + 2 := by omega
    rw [e, List.set_cons_succ, flatV_cons, flatV_cons, ← ih]
    simp [gcell]
theorem ofRow_at {D : List Int} {s : Int} {j : Nat} (hj : j < D.length) : ∃ u v, (flatV gcell (ofRow D s j))[j * 2]? = some u ∧ (flatV gcell (ofRow D s j))[j * 2 + 1]? = some v := by
  have hl : (flatV gcell (ofRow D s j)).length = D.length * 2 := by rw [flatV_len gcell_len, ofRow_len D s (by omega)]
  exact ⟨_, _, List.getElem?_eq_getElem (by omega), List.getElem?_eq_getElem (by omega)⟩
theorem made_zero (n : Nat) : (rowC 0 n) = flatV gcell (List.replicate n zg) := by simp [rowC]
attribute [local go_sem ↓ high] make_makeG
set_option maxRecDepth 100000 in
set_option maxHeartbeats 1000000 in
theorem of_any (b : List UInt8) (s : Int) (w : World) (hb : b.length ≤ 90000) :
    Calls Try.prog 20 #[.string ⟨b.toArray⟩, .int .u8 s] w fun e w' => ∃ u, e = .returned u ∧ GOwn w.heap.size w' u ((dec b).map fun r => (r, s)) ∧ Below w.heap.size w w' := by
  obtain ⟨u0, w0, k0, s0, b0⟩ := bytes_of_str w b
  have HD := Lib.hid (decode_any b u0 w0 s0 (by omega))
  have hdl := dec_le b
  have B0 := Lib.hid b0
  have z0 := b0.size
  obtain ⟨D, hD⟩ : ∃ D, dec b = D := ⟨_, rfl⟩
  rw [hD] at HD hdl ⊢
  clear hD s0 b0
  go_enter Try.func20, Try.ntmps20
  go_wp2_with fail
  refine HD.out.mono ?_
  rintro e w1 ⟨u1, rfl, s1, b1⟩
  have S1 := Lib.hid s1
  have B1 := Lib.hid (B0.out.trans (b1.mono z0))
  have z1 := B1.out.size
  obtain ⟨a1, c1, rfl, -, -⟩ := s1
  have kmk := makeG_run w1 D.length (by omega)
  have hb2 := below_lit w1 (.cells (rowC 0 D.length).toArray 27)
  have HR0 : Hid (Blk (w1.alloc (.cells (rowC 0 D.length).toArray 27)) w1.heap.size 27 (flatV gcell (ofRow D s 0))) := Lib.hid (by
    rw [ofRow_zero, ← made_zero]
    exact heap_alloc_new w1 _)
  have HB2 := Lib.hid hb2
  clear b1 hb2 HD
  go_wp2_with fail
  go_loopw [17] (fun i wr => ∃ j : Nat, j ≤ D.length ∧ i = .int .i64 j ∧ Blk wr w1.heap.size 27 (flatV gcell (ofRow D s j)) ∧ Below w1.heap.size w1 wr) (fun i _ => D.length - (intOf i).toNat)
  case atStart => exact ⟨0, by omega, rfl, HR0.out, HB2.out⟩
  case round =>
    obtain ⟨j, hj, rfl, hblk, hbw⟩ := hrel
    have HBK := Lib.hid hblk
    have HBW := Lib.hid hbw
    clear hblk hbw
    by_cases hlt : j < D.length
    · obtain ⟨r, hr⟩ : ∃ r, D[j]? = some r := ⟨D[j], List.getElem?_eq_getElem hlt⟩
      obtain ⟨a2, c2, hv2, -, hrd⟩ := S1.out.below HBW.out
      injection hv2 with e1 e2 e3
      subst e1
      obtain ⟨g, off, rfl, c0⟩ := hrd j r hr
      obtain ⟨x0, x1, d0, d1⟩ := ofRow_at (s := s) hlt
      have q0 := (HBK.out.cell (j * 2)).trans d0
      have q1 := (HBK.out.cell (j * 2 + 1)).trans d1
      have f0 := HBK.out.frozen (List.getElem?_eq_some_iff.1 d0).1
      have f1 := HBK.out.frozen (List.getElem?_eq_some_iff.1 d1).1
      have HN : Hid (Blk ((wr.setCell ⟨w1.heap.size, j * 2, none⟩ (.int .i32 r)).setCell ⟨w1.heap.size, j * 2 + 1, none⟩ (.int .u8 s)) w1.heap.size 27 (flatV gcell (ofRow D s (j + 1)))) := Lib.hid (by
        have h := (HBK.out.set (j * 2) (.int .i32 r)).set (j * 2 + 1) (.int .u8 s)
        rw [flatV_set2 _ j (r, s) (by rw [ofRow_len D s (by omega)]; exact hlt), ofRow_set hr] at h
        exact h)
      have HBN : Hid (Below w1.heap.size w1 ((wr.setCell ⟨w1.heap.size, j * 2, none⟩ (.int .i32 r)).setCell ⟨w1.heap.size, j * 2 + 1, none⟩ (.int .u8 s))) := Lib.hid ((HBW.out.setCell (Nat.le_refl _) _).setCell (Nat.le_refl _) _)
      have hi0 : (j : Int) < (D.length : Int) := by omega
      have hi1 : (0 : Int) ≤ (j : Int) := by omega
      clear hr hrd d0 d1
      go_wp2_with fail
      go_roundw
      case rel => exact ⟨j + 1, by omega, by go_num, HN.out, HBN.out⟩
      case measure => (simp [intOf]; try omega)
    · obtain rfl : j = D.length := by omega
      have HO : Hid (GOwn w.heap.size wr (.slice (some ⟨w1.heap.size, 0, none⟩) D.length D.length) (D.map fun r => (r, s))) := Lib.hid (by
        have h := HBK.out
        rw [ofRow_full] at h
        have := Blk.fown (base := w.heap.size) gcell_len h z1 (by simp [maxLen]; omega)
        simpa using this)
      have HF := Lib.hid (B1.out.trans (HBW.out.mono z1))
      go_wp2_with fail
      go_ret
      exact ⟨_, rfl, HO.out, HF.out⟩
end Go.Proofs.Ytpcbbhfbldchlaa
namespace Go.Proofs.Ytpcbbhfbldchlaa
open Go.RowKit
attribute [local go_sem ↓ high] builtin_appG
theorem setCell_szz (w : World) (a : Addr) (v : Value) : (w.setCell a v).heap.size = w.heap.size := by simp [World.setCell]
/-- The runes of glyphs. -/
def rn (l : List Gly) : List Int := l.map (·.1)
attribute [local go_sem ↓ high] builtin_appB
set_option maxRecDepth 100000 in
set_option maxHeartbeats 1000000 in
theorem gtext_any (l : List Gly) (v : Value) (w : World) (hv : Gs w v l) (hok : ∀ g ∈ l, -2147483648 ≤ g.1 ∧ g.1 ≤ 2147483647) (hl : l.length ≤ 20000) :
    Calls Try.prog 10 #[v] w fun e w' => e = .returned (.string ⟨(enc (rn l)).toArray⟩) ∧ Below w.heap.size w w' := by
  have HV := Lib.hid hv
  have HZ := Lib.hid hok
  obtain ⟨a, cap, rfl⟩ := hv.len
  clear hv hok
  go_enter Try.func10, Try.ntmps10
  go_wp2_with fail
  go_loopw [3, 4] (fun s i wr => ∃ j : Nat, j ≤ l.length ∧ i = .int .i64 j ∧ Own w.heap.size 5 .u8 wr s (encZ ((rn l).take j)) ∧ Below w.heap.size w wr) (fun _ i _ => l.length - (intOf i).toNat)
  case atStart => exact ⟨0, by omega, rfl, Own.nil _ _ _ _, Below.refl _ _⟩
  case round =>
    obtain ⟨j, hj, rfl, ho, hbw⟩ := hrel
    by_cases hlt : j < l.length
    · obtain ⟨z, hz⟩ : ∃ z, l[j]? = some z := ⟨l[j], List.getElem?_eq_getElem hlt⟩
      obtain ⟨g, off, rfl, c0, c1, -⟩ := Gs.at (Fs.below HV.out hbw) hz
      have hzr : (rn l)[j]? = some z.1 := by simp [rn, hz]
      have hsn := Lib.hid (encZ_take hzr)
      have hzb := HZ.out z (List.mem_of_getElem? hz)
      have h1 := Lib.hid (one_any z.1 hzb.1 hzb.2 wr)
      have hel := encZ_len ((rn l).take j)
      rw [List.length_take] at hel
      have hzl := Lib.encodeRuneZ_length z.1
      have HO := Lib.hid ho
      clear hz hzr hzb ho c1
      have hi0 : (j : Int) < (l.length : Int) := by omega
      have hi1 : (0 : Int) ≤ (j : Int) := by omega
      go_wp2_with fail
      refine h1.out.mono ?_
      rintro e w1 ⟨u, rfl, hu, b1⟩
      have bw := hbw.size
      have oa := HO.out.keep b1
      have bs := b1.size
      obtain ⟨s', w3, k3, o3, g3, -⟩ := appB_own oa hu (by omega) (by omega)
      have b3 := Lib.hid (oa.below (hbw.trans (b1.mono bw)) (by omega) g3)
      have O3 := Lib.hid o3
      clear oa b1 o3 g3 hu h1
      go_wp2_with fail
      go_roundw
      case rel =>
        refine ⟨j + 1, by omega, by go_num, ?_, b3.out⟩
        rw [hsn.out]
        exact O3.out
      case measure => (simp [intOf]; try omega)
    · obtain rfl : j = l.length := by omega
      have hB : By wr u3 (enc (rn l)) := by
        unfold By
        rw [encZ_enc]
        have h := ho.sl
        rw [show l.length = (rn l).length by simp [rn], List.take_length] at h
        exact h
      have h5 := str_of_bytes hB
      clear ho hB
      go_wp2_with fail
      go_ret
      exact ⟨rfl, hbw⟩
end Go.Proofs.Ytpcbbhfbldchlaa
