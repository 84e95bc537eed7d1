/- The document's Of; Text, in the program and in the document's answer. -/
import Derived.Test.YtkiglnfapoifiaaDoorGc
import Derived.Test.YtkiglnfapoifiaaDoorG2
namespace Go.Proofs.YtkiglnfapoifiaaDoor
open Go.RowKit

attribute [local go_sem ↓ high] builtin_appG
theorem map_take_succ {D : List Int} {s : Int} {j : Nat} {r : Int} (h : D[j]? = some r) : ((D.take (j + 1)).map fun r => (r, s)) = ((D.take j).map fun r => (r, s)) ++ [(r, s)] := by
  rw [List.take_add_one, h]
  simp
set_option maxRecDepth 100000 in
set_option maxHeartbeats 1000000 in
theorem rof_any (b : List UInt8) (s : Int) (w : World) (hb : b.length ≤ 2000) :
    Calls Tryd.prog 26 #[.string ⟨b.toArray⟩, .int .u8 s] w fun e w' => ∃ u, e = .returned u ∧ GOwn w.heap.size w' u ((dec b).map fun r => (r, s)) ∧ Below w.heap.size w w' := by
  obtain ⟨u0, w0, k0, s0, b0⟩ := bytes_of_str w b
  have HD := Lib.hid (rdecode_any b (by omega) u0 w0 s0)
  have hdl := dec_le b
  have B0 := Lib.hid b0
  have z0 := b0.size
  obtain ⟨D, hD⟩ : ∃ D, dec b = D := ⟨_, rfl⟩
  rw [hD] at HD hdl ⊢
  clear hD s0 b0
  go_enter Tryd.func26, Tryd.ntmps26
  go_wp2_with fail
  refine HD.out.mono ?_
  rintro e w1 ⟨u1, rfl, s1, b1⟩
  have S1 := Lib.hid s1
  have B1 := Lib.hid (B0.out.trans (b1.mono z0))
  have z1 := B1.out.size
  obtain ⟨a1, c1, rfl, -, -⟩ := s1
  clear b1 HD
  go_wp2_with fail
  go_loopw [6, 7] (fun v i wr => ∃ j : Nat, j ≤ D.length ∧ i = .int .i64 j ∧ GOwn w1.heap.size wr v ((D.take j).map fun r => (r, s)) ∧ Below w1.heap.size w1 wr) (fun _ i _ => D.length - (intOf i).toNat)
  case atStart => exact ⟨0, by omega, rfl, FOwn.nil _ _, Below.refl _ _⟩
  case round =>
    obtain ⟨j, hj, rfl, ho, hbw⟩ := hrel
    have HO := Lib.hid ho
    have HBW := Lib.hid hbw
    have bw := hbw.size
    clear ho hbw
    by_cases hlt : j < D.length
    · obtain ⟨r, hr⟩ : ∃ r, D[j]? = some r := ⟨D[j], List.getElem?_eq_getElem hlt⟩
      obtain ⟨a2, c2, hv2, -, hrd⟩ := S1.out.below HBW.out
      injection hv2 with e1 e2 e3
      subst e1
      obtain ⟨g, off, rfl, c0⟩ := hrd j r hr
      have HN := Lib.hid (map_take_succ (s := s) hr)
      have hml : ((D.take j).map fun r => (r, s)).length ≤ 2000 := by simp; omega
      obtain ⟨x', w3, k3, o3, g3, -⟩ := appG_own (HO.out.keep (below_lit wr (.cells #[.int .i32 r, .int .u8 s] 47))) (fs_lit gcell_len wr 47 [(r, s)]) (by simp; omega) (by simp only [List.length_cons, List.length_nil]; omega)
      have B3 := Lib.hid (FOwn.below (HO.out.keep (below_lit wr (.cells #[.int .i32 r, .int .u8 s] 47))) (HBW.out.trans ((below_lit wr (.cells #[.int .i32 r, .int .u8 s] 47)).mono bw)) (by simp; omega) g3)
      have O3 := Lib.hid o3
      have k3' : (appG #[u6, .slice (some ⟨wr.heap.size, 0, none⟩) 1 1]).run Tryd.prog (wr.alloc (.cells #[.int .i32 r, .int .u8 s] 47)) = .ok (.value x') w3 := k3
      have hi0 : (j : Int) < (D.length : Int) := by omega
      have hi1 : (0 : Int) ≤ (j : Int) := by omega
      clear hr hrd o3 g3 k3
      go_wp2_with fail
      go_roundw
      case rel => exact ⟨j + 1, by omega, by go_num, by rw [HN.out]; exact O3.out, B3.out⟩
      case measure => (simp [intOf]; try omega)
    · obtain rfl : j = D.length := by omega
      have HO' : Hid (GOwn w.heap.size wr u6 (D.map fun r => (r, s))) := Lib.hid (by
        have h := HO.out
        rw [List.take_length] at h
        exact h.mono z1)
      have HF := Lib.hid (B1.out.trans (HBW.out.mono z1))
      clear HO
      go_wp2_with fail
      go_ret
      exact ⟨_, rfl, HO'.out, HF.out⟩

theorem setCell_sz0 (w : World) (a : Addr) (v : Value) : (w.setCell a v).heap.size = w.heap.size := by simp [World.setCell]
/-- The runes of glyphs. -/
def rn (l : List Gly) : List Int := l.map (·.1)
/-- 'make([]rune, n)', kept whole. -/
noncomputable def makeR (a b : Value) : Sem Value := Instr.makeSlice 39 a b
theorem make_makeR (a b : Value) : Instr.makeSlice 39 a b = makeR a b := rfl
theorem made_zeros (n : Nat) : (madeCells #[.int .i32 0] (n * 1)) = (List.replicate n (Value.int .i32 0)).toArray := by
  apply Array.ext'
  apply List.ext_getElem
  · simp [madeCells]
  · intro i h1 h2
    simp [madeCells, Nat.mod_one]
theorem makeR_run (W : World) (n : Nat) (hn : n ≤ 100000) : (makeR (.int .i64 (n : Int)) (.int .i64 (n : Int))).run Tryd.prog W = .ok (.slice (some ⟨W.heap.size, 0, none⟩) n n) (W.alloc (.cells (List.replicate n (Value.int .i32 0)).toArray 21)) := by
  obtain ⟨i0, hi, hz0, hz1, hz2⟩ := info_parts infoR
  have := run_makeSlice (P := Tryd.prog) W 39 21 i0 _ Tryd.underlying39 hi hz0 .i64 .i64 (n : Int) (n : Int) (by omega) (Int.le_refl _) (by rw [hz1]; simp; omega) (by rw [hz2]; omega) (by omega)
  unfold makeR
  rw [this]
  simp only [Int.toNat_natCast, hz1]
  have e : (Value.int .i32 0).cells = #[.int .i32 0] := rfl
  rw [e, made_zeros]
/-- The first j runes; then zeros. -/
def rnRow (l : List Gly) (j : Nat) : List Value := ((rn l).take j).map (Value.int .i32) ++ List.replicate (l.length - j) (Value.int .i32 0)
theorem rnRow_set {l : List Gly} {j : Nat} {g : Gly} (h : l[j]? = some g) : (rnRow l j).set j (.int .i32 g.1) = rnRow l (j + 1) := by
  have hlt := (List.getElem?_eq_some_iff.1 h).1
  unfold rnRow
  have hl : (((rn l).take j).map (Value.int .i32)).length = j := by simp [rn]; omega
  rw [List.set_append_right _ _ (by omega), hl, Nat.sub_self]
  obtain ⟨m, hm⟩ : ∃ m, l.length - j = m + 1 := ⟨l.length - j - 1, by omega⟩
  rw [hm, List.replicate_succ, List.set_cons_zero, List.take_add_one, show l.length - (j + 1) = m by omega]
  simp [rn, h]
theorem rnRow_len (l : List Gly) {j : Nat} (hj : j ≤ l.length) : (rnRow l j).length = l.length := by simp [rnRow, rn]; omega
theorem rnRow_full (l : List Gly) : rnRow l l.length = (rn l).map (Value.int .i32) := by
  unfold rnRow
  rw [show l.length = (rn l).length by simp [rn], List.take_length]
  simp

attribute [local go_sem ↓ high] make_makeR
set_option maxRecDepth 100000 in
set_option maxHeartbeats 1000000 in
theorem text_any (l : List Gly) (v : Value) (w : World) (hv : Gs w v l) (hl : l.length ≤ 20000) :
    Calls Tryd.prog 13 #[v] w fun e w' => e = .returned (.string ⟨(enc (rn l)).toArray⟩) ∧ Below w.heap.size w w' := by
  have HV := Lib.hid hv
  obtain ⟨a, cap, rfl⟩ := hv.len
  have kmk := makeR_run w l.length (by omega)
  have HR0 : Hid (Blk (w.alloc (.cells (List.replicate l.length (Value.int .i32 0)).toArray 21)) w.heap.size 21 (rnRow l 0)) := Lib.hid (by
    have e : rnRow l 0 = List.replicate l.length (Value.int .i32 0) := by simp [rnRow]
    rw [e]
    exact heap_alloc_new w _)
  have HB2 := Lib.hid (below_lit w (.cells (List.replicate l.length (Value.int .i32 0)).toArray 21))
  clear hv
  go_enter Tryd.func13, Tryd.ntmps13
  go_wp2_with fail
  go_loopw [11] (fun i wr => ∃ j : Nat, j ≤ l.length ∧ i = .int .i64 j ∧ Blk wr w.heap.size 21 (rnRow l j) ∧ Below w.heap.size w wr) (fun i _ => l.length - (intOf i).toNat)
  case atStart => exact ⟨0, by omega, rfl, HR0.out, HB2.out⟩
  case round =>
    obtain ⟨j, hj, rfl, hblk, hbw⟩ := hrel
    have HBK := Lib.hid hblk
    have HBW := Lib.hid hbw
    have bw := hbw.size
    have hgb := (Array.getElem?_eq_some_iff.1 hblk).1
    clear hblk hbw
    by_cases hlt : j < l.length
    · obtain ⟨z, hz⟩ : ∃ z, l[j]? = some z := ⟨l[j], List.getElem?_eq_getElem hlt⟩
      obtain ⟨g, off, rfl, c0, c1, -⟩ := Gs.at (Fs.below HV.out HBW.out) hz
      have hlj : j < (rnRow l j).length := by rw [rnRow_len l (by omega)]; exact hlt
      obtain ⟨x0, hx0⟩ : ∃ x0, (rnRow l j)[j]? = some x0 := ⟨_, List.getElem?_eq_getElem hlj⟩
      have q0 := (HBK.out.cell j).trans hx0
      have f0 := HBK.out.frozen hlj
      have b1 := below_lit wr (.cells #[.int .i32 z.1, .int .u8 z.2] 47)
      have q0' := (b1.cell (p := ⟨w.heap.size, j, none⟩) hgb).trans q0
      have f0' := (b1.frozen (p := ⟨w.heap.size, j, none⟩) hgb).trans f0
      have HN : Hid (Blk ((wr.setCell ⟨w.heap.size, j, none⟩ (.int .i32 z.1)).alloc (.cells #[.int .i32 z.1, .int .u8 z.2] 47)) w.heap.size 21 (rnRow l (j + 1))) := Lib.hid (by
        have h := HBK.out.set j (.int .i32 z.1)
        rw [rnRow_set hz] at h
        exact h.below (below_lit _ _))
      have HBN : Hid (Below w.heap.size w ((wr.setCell ⟨w.heap.size, j, none⟩ (.int .i32 z.1)).alloc (.cells #[.int .i32 z.1, .int .u8 z.2] 47))) := Lib.hid ((HBW.out.setCell (Nat.le_refl _) _).alloc (by rw [setCell_sz0]; exact bw) _)
      have hi0 : (j : Int) < (l.length : Int) := by omega
      have hi1 : (0 : Int) ≤ (j : Int) := by omega
      clear hz hlj b1 hx0
      go_wp2_with fail
      go_roundw
      case rel => exact ⟨j + 1, by omega, by go_num, HN.out, HBN.out⟩
      case measure => (simp [intOf]; try omega)
    · obtain rfl : j = l.length := by omega
      have SL : Sl .i32 wr (.slice (some ⟨w.heap.size, 0, none⟩) l.length l.length) (rn l) := by
        have h := HBK.out
        rw [rnRow_full] at h
        refine ⟨some ⟨w.heap.size, 0, none⟩, l.length, by simp [rn], by simp [rn], fun k z hk => ⟨w.heap.size, 0, rfl, ?_⟩⟩
        rw [Nat.zero_add, h.cell k]
        simp [hk]
      have HE := Lib.hid (encode_any (rn l) _ wr SL)
      clear SL
      go_wp2_with fail
      refine HE.out.mono ?_
      rintro e w5 ⟨u5, rfl, s5, b5⟩
      have h5 := str_of_bytes s5
      have HF := Lib.hid (HBW.out.trans (b5.mono bw))
      clear s5 b5 HE
      go_wp2_with fail
      go_ret
      exact ⟨rfl, HF.out⟩

attribute [local go_sem ↓ high] builtin_appB
set_option maxRecDepth 100000 in
set_option maxHeartbeats 1000000 in
theorem rtext_any (l : List Gly) (v : Value) (w : World) (hv : Gs w v l) (hok : ∀ g ∈ l, -2147483648 ≤ g.1 ∧ g.1 ≤ 2147483647) (hl : l.length ≤ 20000) :
    Calls Tryd.prog 14 #[v] w fun e w' => e = .returned (.string ⟨(enc (rn l)).toArray⟩) ∧ Below w.heap.size w w' := by
  have HV := Lib.hid hv
  have HZ := Lib.hid hok
  obtain ⟨a, cap, rfl⟩ := hv.len
  clear hv hok
  go_enter Tryd.func14, Tryd.ntmps14
  go_wp2_with fail
  go_loopw [3, 4] (fun s i wr => ∃ j : Nat, j ≤ l.length ∧ i = .int .i64 j ∧ Own w.heap.size 5 .u8 wr s (encZ ((rn l).take j)) ∧ Below w.heap.size w wr) (fun _ i _ => l.length - (intOf i).toNat)
  case atStart => exact ⟨0, by omega, rfl, Own.nil _ _ _ _, Below.refl _ _⟩
  case round =>
    obtain ⟨j, hj, rfl, ho, hbw⟩ := hrel
    by_cases hlt : j < l.length
    · obtain ⟨z, hz⟩ : ∃ z, l[j]? = some z := ⟨l[j], List.getElem?_eq_getElem hlt⟩
      obtain ⟨g, off, rfl, c0, c1, -⟩ := Gs.at (Fs.below HV.out hbw) hz
      have hzr : (rn l)[j]? = some z.1 := by simp [rn, hz]
      have hsn := Lib.hid (encZ_take hzr)
      have hzb := HZ.out z (List.mem_of_getElem? hz)
      have h1 := Lib.hid (one_any z.1 hzb.1 hzb.2 wr)
      have hel := encZ_len ((rn l).take j)
      rw [List.length_take] at hel
      have hzl := Lib.encodeRuneZ_length z.1
      have HO := Lib.hid ho
      clear hz hzr hzb ho c1
      have hi0 : (j : Int) < (l.length : Int) := by omega
      have hi1 : (0 : Int) ≤ (j : Int) := by omega
      go_wp2_with fail
      refine h1.out.mono ?_
      rintro e w1 ⟨u, rfl, hu, b1⟩
      have bw := hbw.size
      have oa := HO.out.keep b1
      have bs := b1.size
      obtain ⟨s', w3, k3, o3, g3, -⟩ := appB_own oa hu (by omega) (by omega)
      have b3 := Lib.hid (oa.below (hbw.trans (b1.mono bw)) (by omega) g3)
      have O3 := Lib.hid o3
      clear oa b1 o3 g3 hu h1
      go_wp2_with fail
      go_roundw
      case rel =>
        refine ⟨j + 1, by omega, by go_num, ?_, b3.out⟩
        rw [hsn.out]
        exact O3.out
      case measure => (simp [intOf]; try omega)
    · obtain rfl : j = l.length := by omega
      have hB : By wr u3 (enc (rn l)) := by
        unfold By
        rw [encZ_enc]
        have h := ho.sl
        rw [show l.length = (rn l).length by simp [rn], List.take_length] at h
        exact h
      have h5 := str_of_bytes hB
      clear ho hB
      go_wp2_with fail
      go_ret
      exact ⟨rfl, hbw⟩
end Go.Proofs.YtkiglnfapoifiaaDoor
