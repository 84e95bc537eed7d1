/- A table's reader: the glyphs of a text, and what is wrong in it. A table's reader: a cell that goes on in the lines behind: what holds in memory. -/
import Derived.Test.YtaeplneiicobgaaDoorV8
import Derived.Test.YtaeplneiicobgaaDoorS3
import Derived.Test.YtaeplneiicobgaaDoorEc
import Derived.Test.YtaeplneiicobgaaDoorJF
import Derived.Deep.RegionLaw
import Derived.BigRegion
import Derived.Test.YtaeplneiicobgaaDoorVe
import Derived.Test.YtaeplneiicobgaaDoorJ7
set_option linter.unusedVariables false
set_option linter.unusedSimpArgs false
namespace Go.Proofs.YtaeplneiicobgaaDoor
open Go.RowKit
theorem appDg_raw {W W' : World} {args : Array Value} {v : Value} (h : (appDg args).run Tryd.prog W = .ok (.value v) W') : (Builtin.append_ #[37, 37] 37 args).run Tryd.prog W = .ok v W' := by
  unfold appDg at h
  rw [Sem.run_bind] at h
  cases k : (Builtin.append_ #[37, 37] 37 args).run Tryd.prog W with
  | ok u w1 =>
    rw [k, Result.andThen_ok, Sem.run_pure] at h
    injection h with h1 h2
    injection h1 with h1
    rw [h1, h2]
  | _ => rw [k] at h; cases h
/-- What is told of a text. -/
def RS.add (s : RS) (d : List Dgn) : RS := { s with d := s.d ++ d }
theorem RS.add_nil (s : RS) : s.add [] = s := by simp [RS.add]
theorem dgs_next {ln : Int} {D : List Dg} {j : Nat} {x : Dg} (h : D[j]? = some x) (s : RS) : { s.add ((D.take j).map (fun q => (q.1, ln, q.2.2))) with d := (s.add ((D.take j).map (fun q => (q.1, ln, q.2.2)))).d ++ [(x.1, ln, x.2.2)] } = s.add ((D.take (j + 1)).map (fun q => (q.1, ln, q.2.2))) := by
  rw [take_one9 h]
  simp [RS.add]
/-- Between two that are told: the reader, the frame, the glyphs, those that are left. -/
structure GlJ (w W : World) (B h : Nat) (line : Int) (vl xv vd : Value) (s : RS) (g : List Gly) (D : List Dg) (wr : World) : Prop where
  ri : RI w B line vl s wr
  fr : FrR W wr
  gl : GOwn W.heap.size wr xv g
  ds : Ds wr vd D
  own : ∀ x, wr.cell? ⟨B, 7, none⟩ = some x → x.ownBlock ≠ some h
  vd : ∀ b k c, vd = .slice (some b) k c → b.block = h
  hB : h ≠ B
  hl : h < wr.heap.size
theorem GlJ.keep {w W : World} {B h : Nat} {line : Int} {vl xv vd : Value} {s : RS} {g : List Gly} {D : List Dg} {A A' : World} (q : GlJ w W B h line vl xv vd s g D A) (hb : Below A.heap.size A A') : GlJ w W B h line vl xv vd s g D A' := by
  refine ⟨q.ri.keep hb, q.fr.trans (FrR.below hb), q.gl.keep hb, q.ds.below hb, fun x hx => q.own x ?_, q.vd, q.hB, Nat.lt_of_lt_of_le q.hl hb.size⟩
  rw [← hx]
  exact (hb.cell (p := ⟨B, 7, none⟩) q.ri.lt).symm
theorem Fs.one9 {α : Type} {n : Nat} {f : α → List Value} {W W' : World} {v : Value} {l : List α} {h : Nat} (q : Fs n f W v l) (hv : ∀ b k c, v = .slice (some b) k c → b.block = h) (hh : W'.heap[h]? = W.heap[h]?) : Fs n f W' v l := by
  obtain ⟨a, cap, rfl, hc, hr⟩ := q
  refine ⟨a, cap, rfl, hc, fun j x hj => ?_⟩
  obtain ⟨b, off, rfl, h0⟩ := hr j x hj
  have e : b = h := hv _ _ _ rfl
  exact ⟨b, off, rfl, fun i c hi => (World.cell?_of_block (by show W'.heap[b]? = W.heap[b]?; rw [e]; exact hh)).trans (h0 i c hi)⟩
/-- One is told. -/
theorem GlJ.step {w W : World} {B h : Nat} {line : Int} {vl xv vd : Value} {s : RS} {g : List Gly} {D : List Dg} {A : World} (q : GlJ w W B h line vl xv vd s g D A) (x : Dgn) (hD : s.d.length ≤ 500000) :
    ∃ a c a' c' w2, A.cell? ⟨B, 7, none⟩ = some (.slice a s.d.length c) ∧ (appDg #[.slice a s.d.length c, .slice (some ⟨A.heap.size, 0, none⟩) 1 1]).run Tryd.prog (A.alloc (.cells (edcell x).toArray 41)) = .ok (.value (.slice a' (s.d.length + 1) c')) w2 ∧ w2.cell? ⟨B, 7, none⟩ = some (.slice a s.d.length c) ∧ w2.frozen? ⟨B, 7, none⟩ = false ∧
      GlJ w W B h line vl xv vd { s with d := s.d ++ [x] } g D (w2.setCell ⟨B, 7, none⟩ (.slice a' (s.d.length + 1) c')) := by
  obtain ⟨a, c, a', c', w2, c7, hr, q7, f7, hRI, hF, hap⟩ := q.ri.tell x hD
  obtain ⟨p1, p2⟩ := hap h q.hl q.hB (q.own _ c7)
  refine ⟨a, c, a', c', w2, c7, hr, q7, f7, hRI, q.fr.trans hF, q.gl.sam (hF.sam _ (by decide) (by decide)), Fs.one9 q.ds q.vd p1, fun y hy => ?_, q.vd, q.hB, Nat.lt_of_lt_of_le q.hl hF.size⟩
  rw [World.cell?_setCell_same' _ _ _ (by rw [q7]; rfl)] at hy
  injection hy with hy
  rw [← hy]
  exact p2
set_option maxRecDepth 100000 in
set_option maxHeartbeats 4000000 in
theorem glyphs_any {w : World} {B : Nat} {line : Int} {vl : Value} {s : RS} (b : Txt) (W : World) (hRI : RI w B line vl s W) (hb : b.length ≤ 2000) (h0 : 0 ≤ line) (h1 : line ≤ 100000) (hk : s.k ≤ 1000000) (hd : s.d.length ≤ 400000) :
    Calls Tryd.prog 46 #[.pointer (some ⟨B, 0, none⟩), .string ⟨b.toArray⟩] W fun e W' => ∃ x, e = .returned x ∧ GOwn W.heap.size W' x (lgF b).1 ∧ RI w B line vl (s.add (dgsB (line + s.k - 1) (lgF b).2)) W' ∧ FrR W W' := by
  have hlg := (lgF_len b).2
  obtain ⟨ln, hln⟩ : ∃ ln, line + (s.k : Int) - 1 = ln := ⟨_, rfl⟩
  rw [hln]
  have HL := Lib.hid (line_any 0 0 b W hb)
  unfold LEnd at HL
  have hg1 : (lgF b).1 = (gset (0, 0) (scanL 0 (dec b)).1).1 := rfl
  have hg2 : dgsB ln (lgF b).2 = (scanL 0 (dec b)).2.map (fun q => (q.1, ln, q.2.2)) := by
    show List.map _ (List.map _ _) = _
    rw [List.map_map]
    rfl
  have hdl : (scanL 0 (dec b)).2.length ≤ 2000 := by
    have : (lgF b).2.length = (scanL 0 (dec b)).2.length := by show (List.map _ _).length = _; rw [List.length_map]
    omega
  rw [hg1, hg2]
  obtain ⟨C, hC⟩ : ∃ C, gset (0, 0) (scanL 0 (dec b)).1 = C := ⟨_, rfl⟩
  obtain ⟨D, hD⟩ : ∃ D, (scanL 0 (dec b)).2 = D := ⟨_, rfl⟩
  rw [hC, hD] at HL ⊢
  rw [hD] at hdl
  obtain ⟨g, f1, f2⟩ := C
  simp only at HL ⊢
  have HRI := Lib.hid hRI
  clear hRI hC hD hg1 hg2 hlg
  go_enter Tryd.func46, Tryd.ntmps46
  go_wp2_with (go_at_call 60; refine HL.out.mono ?_; rintro e w1 ⟨xv, vd, rfl, o1, d1, b1⟩; obtain ⟨da, dc, rfl⟩ := (FOwn.sl edcell_len d1).len; obtain ⟨xa, xc, rfl⟩ := (FOwn.sl gcell_len o1).len; have O1 := Lib.hid o1; have D1 := Lib.hid d1; have B1 := Lib.hid b1; clear o1 d1 b1)
  obtain ⟨h, HJ0⟩ : ∃ h, Hid (GlJ w W B h line vl (.slice xa g.length xc) (.slice da D.length dc) s g D (w1.alloc (.cells #[.int .u8 f1, .int .u8 f2] 97))) := by
    have hlt := HRI.out.lt
    have hz1 := B1.out.size
    have bF := below_lit w1 (.cells #[.int .u8 f1, .int .u8 f2] 97)
    have hzF : (w1.alloc (.cells #[.int .u8 f1, .int .u8 f2] 97)).heap.size = w1.heap.size + 1 := World.size_alloc ..
    have bA := B1.out.trans (bF.mono hz1)
    have key : ∀ h, W.heap.size ≤ h → h < w1.heap.size + 1 → (∀ b k c, Value.slice da D.length dc = .slice (some b) k c → b.block = h) → GlJ w W B h line vl (.slice xa g.length xc) (.slice da D.length dc) s g D (w1.alloc (.cells #[.int .u8 f1, .int .u8 f2] 97)) := fun h q1 q2 q3 => by
      refine ⟨HRI.out.keep bA, FrR.below bA, O1.out.keep bF, (FOwn.sl edcell_len D1.out).below bF, fun x hx => ?_, q3, by omega, by omega⟩
      obtain ⟨vr, vdr, k1, -, k3⟩ := HRI.out.val
      have c7 : W.cell? ⟨B, 7, none⟩ = some vdr := k1.cell 7
      rw [bA.cell (p := ⟨B, 7, none⟩) hlt, c7] at hx
      injection hx with hx
      rw [← hx]
      intro e
      obtain ⟨-, cur, hc⟩ := k3.ty e
      have := (Array.getElem?_eq_some_iff.1 hc).1
      omega
    rcases D1.out.2 with ⟨hn, -⟩ | ⟨q, cap, cur, hx, hb', hgg, -⟩
    · exact ⟨w1.heap.size, Lib.hid (key _ hz1 (by omega) (fun b k c e => by rw [hn] at e; injection e with e; cases e))⟩
    · exact ⟨q, Lib.hid (key q hb' (by have := (Array.getElem?_eq_some_iff.1 hgg).1; omega) (fun b k c e => by rw [hx] at e; injection e with e; injection e with e; rw [← e]))⟩
  clear HL O1 D1 B1
  go_loopw [19] (fun i wr => ∃ j : Nat, i = .int .i64 (j : Int) ∧ j ≤ D.length ∧ Hid (GlJ w W B h line vl (.slice xa g.length xc) (.slice da D.length dc) (s.add ((D.take j).map (fun q => (q.1, ln, q.2.2)))) g D wr)) (fun i _ => D.length - (intOf i).toNat)
  case atStart => exact ⟨0, rfl, by omega, by simp only [List.take_zero, List.map_nil, RS.add_nil]; exact HJ0⟩
  case round =>
    obtain ⟨j, rfl, hj, HJ⟩ := hrel
    obtain ⟨s', hs'⟩ : ∃ s', s.add ((D.take j).map (fun q => (q.1, ln, q.2.2))) = s' := ⟨_, rfl⟩
    have hsk : s'.k = s.k := by rw [← hs']; rfl
    have hsd : s'.d.length ≤ 500000 := by
      rw [← hs']
      show (s.d ++ _).length ≤ _
      rw [List.length_append, List.length_map, List.length_take]
      omega
    by_cases hlt : j < D.length
    · obtain ⟨⟨k, l0, cl⟩, hx⟩ : ∃ x, D[j]? = some x := ⟨D[j], List.getElem?_eq_getElem hlt⟩
      have hlt' : (j : Int) < (D.length : Int) := by omega
      have HNX := Lib.hid (dgs_next (ln := ln) hx s)
      rw [hs'] at HJ HNX
      obtain ⟨g0, off, rfl, c0, c1, c2⟩ := Fs.d HJ.out.ds hx
      simp only at c0 c1 c2 HNX
      have hlt2 := HJ.out.ri.lt
      have A1 : Hid (∀ V, Below wr.heap.size wr V → Calls Tryd.prog 42 #[.pointer (some ⟨B, 0, none⟩)] V fun e w' => e = .returned (.int .i64 ln) ∧ Below V.heap.size V w') := Lib.hid fun V hV => by
        have h := at9_any V (HJ.out.ri.keep hV) h0 h1 (by omega)
        rw [hsk, hln] at h
        exact h
      have bX := Lib.hid (below_lit wr (.cells #[.int .i64 k, .int .i64 l0, .int .i64 cl] 41))
      have kX := Lib.hid (heap_alloc_new wr (.cells #[.int .i64 k, .int .i64 l0, .int .i64 cl] 41))
      clear hx hs'
      go_wp2_with (go_at_call 42; refine (A1.out _ bX.out).mono ?_; rintro e w2 ⟨rfl, b2⟩; have B2 := Lib.hid b2; have z1 : w2.cell? ⟨wr.heap.size, 1, none⟩ = some (.int .i64 l0) := (Blk.below (L := [_, _, _]) kX.out b2).cell 1; have z2 : w2.frozen? ⟨wr.heap.size, 1, none⟩ = false := (Blk.below (L := [_, _, _]) kX.out b2).frozen (by simp); clear b2)
      have hBc := Lib.hid ((bX.out.trans (B2.out.mono bX.out.size)).setCell (p := ⟨wr.heap.size, 1, none⟩) (Nat.le_refl _) (.int .i64 ln))
      have kC : Blk (w2.setCell ⟨wr.heap.size, 1, none⟩ (.int .i64 ln)) wr.heap.size 41 [.int .i64 k, .int .i64 ln, .int .i64 cl] := (Blk.below (L := [_, _, _]) kX.out B2.out).set 1 _
      obtain ⟨Wc, hWc⟩ : ∃ Wc, w2.setCell ⟨wr.heap.size, 1, none⟩ (.int .i64 ln) = Wc := ⟨_, rfl⟩
      rw [hWc] at hBc kC ⊢
      have kD := kC.below (Below.refl Wc.heap.size Wc).drew
      have hJc := HJ.out.keep ((hBc.out).drew)
      obtain ⟨a, c, a', c', w3, c7, hr, q7, f7, hJ3⟩ := hJc.step (k, ln, cl) hsd
      have hJ3' : Hid (GlJ w W B h line vl (.slice xa g.length xc) (.slice (some ⟨g0, off, none⟩) D.length dc) (s.add ((D.take (j + 1)).map (fun q => (q.1, ln, q.2.2)))) g D (w3.setCell ⟨B, 7, none⟩ (.slice a' (s'.d.length + 1) c'))) := Lib.hid (by rw [← HNX.out]; exact hJ3)
      have kk : (Builtin.append_ #[37, 37] 37 #[.slice a s'.d.length c, .slice (some ⟨Wc.heap.size, 0, none⟩) 1 1]).run Tryd.prog (Wc.alloc (.cells #[.int .i64 k, .int .i64 ln, .int .i64 cl] 41)).drew = .ok (.slice a' (s'.d.length + 1) c') w3 := appDg_raw hr
      have e0 : Wc.drew.cell? ⟨wr.heap.size, 0, none⟩ = some (.int .i64 k) := kD.cell 0
      have e1 : Wc.drew.cell? ⟨wr.heap.size, 1, none⟩ = some (.int .i64 ln) := kD.cell 1
      have e2 : Wc.drew.cell? ⟨wr.heap.size, 2, none⟩ = some (.int .i64 cl) := kD.cell 2
      have bL := below_lit Wc (.cells #[.int .i64 k, .int .i64 ln, .int .i64 cl] 41)
      have c7' : (Wc.alloc (.cells #[.int .i64 k, .int .i64 ln, .int .i64 cl] 41)).drew.cell? ⟨B, 7, none⟩ = some (.slice a s'.d.length c) := (bL.cell (p := ⟨B, 7, none⟩) hJc.ri.lt).trans c7
      obtain ⟨m, hm⟩ : ∃ m, s'.d.length = m := ⟨_, rfl⟩
      rw [hm] at c7 kk q7 c7' hJ3'
      clear hJ3 hJc hr kC kD bL hWc z1 z2 hBc HJ HNX hm A1
      go_region_law ((refine step_append_run rfl (.tmp 30) (.tmp 32) 37 37 rfl _ _ rfl rfl kk ?_))
      all_goals
        go_wp2_with fail
        go_roundw
        case rel => exact ⟨j + 1, by go_num, by omega, hJ3'⟩
        case measure => simp [intOf]; omega
    · obtain rfl : j = D.length := by omega
      rw [List.take_length] at hs'
      have HF := Lib.hid HJ.out
      rw [List.take_length] at HF
      clear HJ HJ0
      go_wp2_with fail
      go_ret
      exact ⟨_, rfl, HF.out.gl, HF.out.ri, HF.out.fr⟩
end Go.Proofs.YtaeplneiicobgaaDoor
namespace Go.Proofs.YtaeplneiicobgaaDoor
open Go.RowKit
/-- A row of texts in a block of texts. -/
def StS (W : World) (v : Value) (l : List Txt) : Prop := Ss W v l ∧ ∀ b k c, v = .slice (some b) k c → ∃ cur fz, W.heap[b.block]? = some (.cells cur 9 fz)
theorem StS.nil (W : World) : StS W (.slice none 0 0) [] := ⟨Fs.nil W, fun b k c e => by injection e with e; cases e⟩
theorem StS.fr {W W' : World} {v : Value} {l : List Txt} (h : StS W v l) (hf : FrR W W') : StS W' v l := by
  obtain ⟨h1, h2⟩ := h
  have key : ∀ b k c, v = .slice (some b) k c → W'.heap[b.block]? = W.heap[b.block]? := fun b k c e => by
    obtain ⟨cur, fz, q⟩ := h2 b k c e
    rw [q]
    exact hf.sam 0 (by decide) (by decide) b.block cur fz (Nat.zero_le _) q
  refine ⟨?_, fun b k c e => ?_⟩
  · obtain ⟨a, cap, rfl, hc, hr⟩ := h1
    cases a with
    | none =>
      refine ⟨none, cap, rfl, hc, fun j x hj => ?_⟩
      obtain ⟨b, off, e, -⟩ := hr j x hj
      cases e
    | some b =>
      exact Fs.one9 (h := b.block) ⟨some b, cap, rfl, hc, hr⟩ (fun b' k c e => by injection e with e; injection e with e; rw [e]) (key b _ _ rfl)
  · obtain ⟨cur, fz, q⟩ := h2 b k c e
    exact ⟨cur, fz, by rw [key b k c e]; exact q⟩
theorem StS.own {base : Nat} {W : World} {v : Value} {l : List Txt} (h : SOwn base W v l) : StS W v l := by
  refine ⟨FOwn.sl (f := scell) (n := 1) (fun _ => rfl) h, fun b k c e => ?_⟩
  rcases h.2 with ⟨hn, -⟩ | ⟨g, cap, cur, hx, -, hgg, -⟩
  · rw [hn] at e; injection e with e; cases e
  · rw [hx] at e
    injection e with e
    injection e with e
    subst e
    exact ⟨cur, _, hgg⟩
noncomputable def backS9 (x lo : Value) : Sem Value := Instr.slice 28 x (some lo) none none
theorem slice_backS9 (x lo : Value) : Instr.slice 28 x (some lo) none none = backS9 x lo := rfl
theorem StS.tail {W : World} {v : Value} {l : List Txt} (h : StS W v l) (h1 : 1 ≤ l.length) : ∃ a c, (∀ W' : World, (backS9 v (.int .i64 1)).run Tryd.prog W' = .ok (.slice a l.tail.length c) W') ∧ StS W (.slice a l.tail.length c) l.tail := by
  obtain ⟨i0, hi, hz0, hz1, hz2⟩ := info_parts infoS
  obtain ⟨a, cap, rfl, hc, hr⟩ := h.1
  have ht : l.tail = l.drop 1 := by simp
  have hl : l.tail.length = l.length - 1 := by simp
  refine ⟨(if cap = 1 then a else a.map (·.add (1 * 1))), cap - 1, fun W' => ?_, ⟨?_, ?_⟩⟩
  · have q1 : 1 ≤ cap := by omega
    unfold backS9
    have e1 : ((1 : Int) ≤ (cap : Int)) := by omega
    simp [Instr.slice, Instr.sliceBounds, Instr.sliceBound, asIntOf, run_underlying Tryd.underlying28, q1, h1, sizeOf, typeInfo, hi, hz1, hl]
    intro hh
    exfalso
    omega
  · refine ⟨_, _, rfl, by rw [hl]; omega, fun j x hj => ?_⟩
    have hj1 : j < l.length - 1 := by
      have := (List.getElem?_eq_some_iff.1 hj).1
      omega
    rw [ht, List.getElem?_drop] at hj
    obtain ⟨g, off, rfl, h0⟩ := hr (1 + j) x hj
    rw [if_neg (by omega)]
    refine ⟨g, off + 1, ?_, fun i c hi => ?_⟩
    · simp only [Option.map_some, Option.some.injEq, Nat.mul_one]
      rw [Addr.add_lit]
    · have := h0 i c hi
      rw [show off + 1 + (j * 1 + i) = off + ((1 + j) * 1 + i) by omega]
      exact this
  · intro b k c e
    cases a with
    | none =>
      exfalso
      injection e with e
      split at e <;> cases e
    | some b0 =>
      obtain ⟨cur, fz, q⟩ := h.2 b0 _ _ rfl
      injection e with e
      split at e
      · injection e with e
        subst e
        exact ⟨cur, fz, q⟩
      · simp only [Option.map_some] at e
        injection e with e
        subst e
        exact ⟨cur, fz, q⟩
theorem CInv.jo {base : Nat} {W : World} {v : Value} {l : List (List Gly)} (h : CInv base W v l) : JoIn (fun b => base ≤ b ∧ ∃ cur fz, W.heap[b]? = some (.cells cur 45 fz)) W v l := by
  obtain ⟨L, S, hL, hl, hS, hE⟩ := h.own
  exact ⟨L, hl, FOwn.sl pcell_len hL, fun i s r a b => (hE i s r a b).mono hS⟩
theorem CInv.fr {base : Nat} {W W' : World} {v : Value} {l : List (List Gly)} (h : CInv base W v l) (hf : FrR W W') : CInv base W' v l := h.sam (hf.sam _ (by decide) (by decide)) (hf.sam _ (by decide) (by decide))
/-- A row of glyphs in blocks of glyphs from base on. -/
abbrev GlF (base : Nat) (W : World) (v : Value) (g : List Gly) : Prop := FsS (fun b => base ≤ b ∧ ∃ cur fz, W.heap[b]? = some (.cells cur 45 fz)) 2 gcell W v g
theorem GlF.own {base base' : Nat} {W : World} {v : Value} {g : List Gly} (h : GOwn base' W v g) (hb : base ≤ base') : GlF base W v g := own_foot gcell_len (h.mono hb)
theorem FrR.ext {W0 A A' : World} (h : FrR W0 A) (hb : Below W0.heap.size A A') : FrR W0 A' :=
  ⟨Nat.le_trans h.size hb.size, fun g o ho h1 h2 => (hb.block g (Array.getElem?_eq_some_iff.1 ho).1).trans (h.same g o ho h1 h2), fun B x h1 h2 => by
    obtain ⟨k1, cur, fz, k2⟩ := h.rw4 B x h1 h2
    obtain ⟨_, _, k4⟩ := h2
    have k3 := hb.block B (Array.getElem?_eq_some_iff.1 k4).1
    exact ⟨(World.cell?_of_block k3).trans k1, cur, fz, k3.trans k2⟩⟩
/-- What is done in blocks made since, where the table's rows stand as they stood. -/
theorem RI.ext {w W0 A A' : World} {B : Nat} {line : Int} {vl : Value} {s s0 : RS} (h : RI w B line vl s A) (fr : FrR W0 A) (h0 : RI w B line vl s0 W0) (hr : s.rows = s0.rows) (hb : Below W0.heap.size A A') (h2 : SamT 41 w.heap.size A A') : RI w B line vl s A' := by
  obtain ⟨vr, vd, q1, q2, q3⟩ := h.val
  obtain ⟨vr0, vd0, p1, p2, p3⟩ := h0.val
  have f := fr.ext hb
  obtain ⟨k1, -⟩ := fr.rw4 B vr0 (p1.cell 4) ⟨_, _, p1⟩
  rw [q1.cell 4] at k1
  injection k1 with k1
  have e : vr = vr0 := k1
  subst e
  refine ⟨h.sz, h.bel.trans (hb.mono h0.bel.size), vr, vd, (hb.block B h0.lt).trans q1, ?_, q3.sam h2⟩
  rw [hr]
  exact p2.sam (f.sam _ (by decide) (by decide)) (f.sam _ (by decide) (by decide)) (f.sam _ (by decide) (by decide))
/-- Between two lines of such a cell. -/
structure BlM (w W0 : World) (B C C1 : Nat) (line : Int) (vl : Value) (s : RS) (tx : List (List Gly)) (bh : List Txt) (en : Bool) (W : World) : Prop where
  ri : RI w B line vl s W
  fr : FrR W0 W
  b1 : Blk W C 66 [.pointer (some ⟨B, 0, none⟩)]
  tx : ∃ v, Blk W C1 47 [v] ∧ CInv W0.heap.size W v tx
  bh : ∃ v, Blk W (C1 + 1) 28 [v] ∧ StS W v bh
  en : Blk W (C1 + 2) 4 [.bool en]
  b2 : Blk W (C1 + 3) 66 [.pointer (some ⟨B, 0, none⟩)]
  h0 : ∃ s0, RI w B line vl s0 W0 ∧ s.rows = s0.rows
  c0 : W0.heap.size ≤ C
  c1 : C < C1
section
variable {w W0 : World} {B C C1 : Nat} {line : Int} {vl : Value} {s s' : RS} {tx : List (List Gly)} {bh : List Txt} {en : Bool} {A A' : World}
theorem BlM.go (h : BlM w W0 B C C1 line vl s tx bh en A) (hr : RI w B line vl s' A') (hf : FrR A A') (hrw : s'.rows = s.rows := by rfl) : BlM w W0 B C C1 line vl s' tx bh en A' := by
  obtain ⟨v, h1, h2⟩ := h.tx
  obtain ⟨u, h3, h4⟩ := h.bh
  obtain ⟨s0, k1, k2⟩ := h.h0
  exact ⟨hr, h.fr.trans hf, hf.blk h.b1 (by decide) (by decide), ⟨v, hf.blk h1 (by decide) (by decide), h2.fr hf⟩, ⟨u, hf.blk h3 (by decide) (by decide), h4.fr hf⟩, hf.blk h.en (by decide) (by decide), hf.blk h.b2 (by decide) (by decide), ⟨s0, k1, hrw.trans k2⟩, h.c0, h.c1⟩
theorem StS.sam {W W' : World} {v : Value} {l : List Txt} (h : StS W v l) (hs : SamT 9 0 W W') : StS W' v l := by
  obtain ⟨h1, h2⟩ := h
  have key : ∀ b k c, v = .slice (some b) k c → W'.heap[b.block]? = W.heap[b.block]? := fun b k c e => by
    obtain ⟨cur, fz, q⟩ := h2 b k c e
    rw [q]
    exact hs b.block cur fz (Nat.zero_le _) q
  refine ⟨?_, fun b k c e => ?_⟩
  · obtain ⟨a, cap, rfl, hc, hr⟩ := h1
    cases a with
    | none =>
      refine ⟨none, cap, rfl, hc, fun j x hj => ?_⟩
      obtain ⟨b, off, e, -⟩ := hr j x hj
      cases e
    | some b =>
      exact Fs.one9 (h := b.block) ⟨some b, cap, rfl, hc, hr⟩ (fun b' k c e => by injection e with e; injection e with e; rw [e]) (key b _ _ rfl)
  · obtain ⟨cur, fz, q⟩ := h2 b k c e
    exact ⟨cur, fz, by rw [key b k c e]; exact q⟩
theorem SamT.zero {e : TypeId} {base : Nat} {W W' : World} (h : SamT e base W W') (hb : ∀ g, g < base → W'.heap[g]? = W.heap[g]?) : SamT e 0 W W' := fun g cur fz _ hg => by
  by_cases q : base ≤ g
  · exact h g cur fz q hg
  · rw [hb g (by omega)]; exact hg
theorem appP_raw {W W' : World} {args : Array Value} {v : Value} (h : (appP args).run Tryd.prog W = .ok (.value v) W') : (Builtin.append_ #[47, 47] 47 args).run Tryd.prog W = .ok v W' := by
  unfold appP at h
  rw [Sem.run_bind] at h
  cases k : (Builtin.append_ #[47, 47] 47 args).run Tryd.prog W with
  | ok u w1 =>
    rw [k, Result.andThen_ok, Sem.run_pure] at h
    injection h with h1 h2
    injection h1 with h1
    rw [h1, h2]
  | _ => rw [k] at h; cases h
theorem res_inj {α : Type} {v v' : α} {w w' : World} (h : Result.ok v w = Result.ok v' w') : w = w' := by
  injection h
theorem CInv.ko {base : Nat} {W : World} {v : Value} {l : List (List Gly)} (h : CInv base W v l) (hb : base ≤ W.heap.size) (hl : l.length ≤ 500000) (s : PV) {v' : Value} {w' : World} (hr : (appP #[v, .slice (some ⟨W.heap.size, 0, none⟩) 1 1]).run Tryd.prog (W.alloc (.cells #[pv s] 46)) = .ok (.value v') w') : KeepsOthers W w' := by
  obtain ⟨L, S, hL, hLl, hS, hE⟩ := h.own
  obtain ⟨i0, hi, hz0, hz1, hz2⟩ := info_parts infoSG
  obtain ⟨a', c', w2, hr2, ho, hg, hty⟩ := fpush (P := Tryd.prog) (t := 47) pcell_len pcell_one (by decide) Tryd.underlying47 hi hz0 hz1 hz2 rfl (by decide) hL hb (by omega) s
  have e : w' = w2 := by
    have h1 := appP_raw hr
    rw [show (pcell s).toArray = #[pv s] from rfl] at hr2
    exact res_inj (h1.symm.trans hr2)
  subst e
  refine (KeepsOthers.alloc W _).trans (KeepsOthers.of_grownBy hg (fun j o e ho => ?_))
  obtain ⟨cur, fz, hc⟩ := hty j e
  rw [hc] at ho
  cases ho
  rfl
/-- A text more. -/
theorem BlM.push (h : BlM w W0 B C C1 line vl s tx bh en A) (hl : tx.length ≤ 500000) (q : PV) (r : List Gly) (hs : GlF W0.heap.size A (pv q) r) :
    ∃ ta tc a' c' w', A.cell? ⟨C1, 0, none⟩ = some (.slice ta tx.length tc) ∧ (appP #[.slice ta tx.length tc, .slice (some ⟨A.heap.size, 0, none⟩) 1 1]).run Tryd.prog (A.alloc (.cells #[pv q] 46)) = .ok (.value (.slice a' (tx.length + 1) c')) w' ∧ w'.cell? ⟨C1, 0, none⟩ = some (.slice ta tx.length tc) ∧ w'.frozen? ⟨C1, 0, none⟩ = false ∧
      BlM w W0 B C C1 line vl s (tx ++ [r]) bh en (w'.setCell ⟨C1, 0, none⟩ (.slice a' (tx.length + 1) c')) ∧ KeepsOthers A (w'.setCell ⟨C1, 0, none⟩ (.slice a' (tx.length + 1) c')) := by
  obtain ⟨v, t1, t2⟩ := h.tx
  obtain ⟨u, t3, t4⟩ := h.bh
  obtain ⟨s0, k1, k2⟩ := h.h0
  obtain ⟨ta, tc, rfl⟩ := t2.len
  have hc0 := h.c0
  have hc1 := h.c1
  obtain ⟨a', c', w', hr, ci, hb, sam⟩ := t2.push h.fr.size hl q r hs
  have ko := t2.ko h.fr.size hl q hr
  have z : ∀ {e : TypeId}, e ≠ 46 → SamT e 0 A w' := fun he => (sam _ he).zero (fun g hg => hb.block g hg)
  have t1' := t1.sam (Nat.zero_le _) (z (by decide))
  have ri1 := h.ri.ext h.fr k1 k2 hb (fun g cur fz _ hg => z (e := 41) (by decide) g cur fz (Nat.zero_le _) hg)
  have fr1 := h.fr.ext hb
  have hb2 : Below W0.heap.size w' (w'.setCell ⟨C1, 0, none⟩ (.slice a' (tx.length + 1) c')) := (Below.refl _ w').setCell (p := ⟨C1, 0, none⟩) (by show W0.heap.size ≤ C1; omega) _
  have st : ∀ {e : TypeId}, e ≠ 47 → SamT e 0 w' (w'.setCell ⟨C1, 0, none⟩ (.slice a' (tx.length + 1) c')) := fun he => SamT.set t1' (fun q => he q) 0 _
  refine ⟨ta, tc, a', c', w', t1.cell 0, hr, t1'.cell 0, t1'.frozen (by simp), ⟨?_, fr1.ext hb2, ?_, ⟨_, t1'.set 0 _, ?_⟩, ⟨u, ?_, ?_⟩, ?_, ?_, ⟨s0, k1, k2⟩, h.c0, h.c1⟩, ko.trans (KeepsOthers.setCell _ _ _)⟩
  · exact ri1.ext fr1 k1 k2 hb2 (fun g cur fz _ hg => st (e := 41) (by decide) g cur fz (Nat.zero_le _) hg)
  · exact (h.b1.sam (Nat.zero_le _) (z (by decide))).sam (Nat.zero_le _) (st (by decide))
  · exact ci.sam (SamT.set t1' (by decide) 0 _) (SamT.set t1' (by decide) 0 _)
  · exact (t3.sam (Nat.zero_le _) (z (by decide))).sam (Nat.zero_le _) (st (by decide))
  · exact (t4.sam (z (by decide))).sam (st (by decide))
  · exact (h.en.sam (Nat.zero_le _) (z (by decide))).sam (Nat.zero_le _) (st (by decide))
  · exact (h.b2.sam (Nat.zero_le _) (z (by decide))).sam (Nat.zero_le _) (st (by decide))
end
section
variable {w W0 : World} {B C C1 : Nat} {line : Int} {vl : Value} {s s' : RS} {tx : List (List Gly)} {bh : List Txt} {en : Bool} {A A' : World}
theorem BlM.keep (h : BlM w W0 B C C1 line vl s tx bh en A) (hb : Below A.heap.size A A') : BlM w W0 B C C1 line vl s tx bh en A' := h.go (h.ri.keep hb) (FrR.below hb)
theorem StS.fr0 {v : Value} {l : List Txt} {B' : Nat} : Fr0 B' (fun W => StS W v l) := fun A A' row h hg hr => by
  obtain ⟨h1, h2⟩ := h
  refine ⟨?_, fun b k c e => ?_⟩
  · obtain ⟨a, cap, rfl, hc, hr'⟩ := h1
    cases a with
    | none =>
      refine ⟨none, cap, rfl, hc, fun j x hj => ?_⟩
      obtain ⟨b, off, e, -⟩ := hr' j x hj
      cases e
    | some b =>
      obtain ⟨cur, fz, q⟩ := h2 b _ _ rfl
      exact Fs.one9 (h := b.block) ⟨some b, cap, rfl, hc, hr'⟩ (fun b' k c e => by injection e with e; injection e with e; rw [e]) (by rw [q]; exact SamT.others hg hr b.block cur fz (Nat.zero_le _) q)
  · obtain ⟨cur, fz, q⟩ := h2 b k c e
    exact ⟨cur, fz, SamT.others hg hr b.block cur fz (Nat.zero_le _) q⟩
theorem CInv.fr0 {base B' : Nat} {v : Value} {l : List (List Gly)} : Fr0 B' (fun W => CInv base W v l) := fun A A' row h hg hr => h.sam (SamT.others hg hr) (SamT.others hg hr)
/-- What lies behind is told, and that it ended. -/
theorem BlM.brk (h : BlM w W0 B C C1 line vl s tx bh en A) {v : Value} {bh' : List Txt} (hs : StS A v bh') :
    BlM w W0 B C C1 line vl s tx bh' true ((A.setCell ⟨C1 + 1, 0, none⟩ v).setCell ⟨C1 + 1 + 1, 0, none⟩ (.bool true)) := by
  obtain ⟨v0, t1, t2⟩ := h.tx
  obtain ⟨u, t3, t4⟩ := h.bh
  obtain ⟨s0, k1, k2⟩ := h.h0
  have hc0 := h.c0
  have hc1 := h.c1
  have b1 : Below W0.heap.size A (A.setCell ⟨C1 + 1, 0, none⟩ v) := (Below.refl _ A).setCell (p := ⟨C1 + 1, 0, none⟩) (by show W0.heap.size ≤ C1 + 1; omega) _
  have e1 : Blk (A.setCell ⟨C1 + 1, 0, none⟩ v) (C1 + 2) 4 [.bool en] := h.en.other (by omega) _ _
  have b2 : Below W0.heap.size (A.setCell ⟨C1 + 1, 0, none⟩ v) ((A.setCell ⟨C1 + 1, 0, none⟩ v).setCell ⟨C1 + 1 + 1, 0, none⟩ (.bool true)) := (Below.refl _ _).setCell (p := ⟨C1 + 1 + 1, 0, none⟩) (by show W0.heap.size ≤ C1 + 1 + 1; omega) _
  have s1 : ∀ {e : TypeId}, e ≠ 28 → SamT e 0 A (A.setCell ⟨C1 + 1, 0, none⟩ v) := fun he => SamT.set t3 (fun q => he q) 0 _
  have s2 : ∀ {e : TypeId}, e ≠ 4 → SamT e 0 (A.setCell ⟨C1 + 1, 0, none⟩ v) ((A.setCell ⟨C1 + 1, 0, none⟩ v).setCell ⟨C1 + 1 + 1, 0, none⟩ (.bool true)) := fun he => SamT.set e1 (fun q => he q) 0 _
  have ri1 := h.ri.ext h.fr k1 k2 b1 (fun g cur fz _ hg => s1 (e := 41) (by decide) g cur fz (Nat.zero_le _) hg)
  have fr1 := h.fr.ext b1
  refine ⟨ri1.ext fr1 k1 k2 b2 (fun g cur fz _ hg => s2 (e := 41) (by decide) g cur fz (Nat.zero_le _) hg), fr1.ext b2, ?_, ⟨v0, ?_, ?_⟩, ⟨v, ?_, ?_⟩, e1.set 0 _, ?_, ⟨s0, k1, k2⟩, h.c0, h.c1⟩
  · exact (h.b1.sam (Nat.zero_le _) (s1 (by decide))).sam (Nat.zero_le _) (s2 (by decide))
  · exact (t1.sam (Nat.zero_le _) (s1 (by decide))).sam (Nat.zero_le _) (s2 (by decide))
  · exact (t2.sam (fun g cur fz _ hg => s1 (by decide) g cur fz (Nat.zero_le _) hg) (fun g cur fz _ hg => s1 (by decide) g cur fz (Nat.zero_le _) hg)).sam (fun g cur fz _ hg => s2 (by decide) g cur fz (Nat.zero_le _) hg) (fun g cur fz _ hg => s2 (by decide) g cur fz (Nat.zero_le _) hg)
  · exact (t3.set 0 v).sam (Nat.zero_le _) (s2 (by decide))
  · exact (hs.sam (s1 (by decide))).sam (s2 (by decide))
  · exact (h.b2.sam (Nat.zero_le _) (s1 (by decide))).sam (Nat.zero_le _) (s2 (by decide))
theorem GlF.fr0 {base B' : Nat} {v : Value} {g : List Gly} : Fr0 B' (fun W => GlF base W v g) := fun A A' row h hg hr => by
  have hs : SamT 45 base A A' := SamT.others hg hr
  refine FsS.mono (FsS.keep h (fun b q => ?_)) (fun b q => ?_)
  · obtain ⟨q1, cur, fz, q2⟩ := q
    rw [hs b cur fz q1 q2, q2]
  · obtain ⟨q1, cur, fz, q2⟩ := q
    exact ⟨q1, cur, fz, hs b cur fz q1 q2⟩
theorem JR.glf {base : Nat} {W W' : World} {v : Value} {g : List Gly} (h : JR (fun b => base ≤ b ∧ ∃ cur fz, W.heap[b]? = some (.cells cur 45 fz)) base W' v g) (hb : Below W.heap.size W W') : GlF base W' v g :=
  FsS.mono h (fun b q => by
    rcases q with ⟨q1, cur, fz, q2⟩ | q
    · exact ⟨q1, cur, fz, (hb.block b (Array.getElem?_eq_some_iff.1 q2).1).trans q2⟩
    · exact q)
theorem BlM.fr0 {B' : Nat} (h1 : w.heap.size ≤ B') (h2 : W0.heap.size ≤ B') : Fr0 B' (BlM w W0 B C C1 line vl s tx bh en) := fun A A' row h hg hr => by
  obtain ⟨v, q1, q2⟩ := h.tx
  obtain ⟨u, q3, q4⟩ := h.bh
  exact ⟨RI.fr0 h1 A A' row h.ri hg hr, FrR.fr0 h2 A A' row h.fr hg hr, Blk.fr0 A A' row h.b1 hg hr, ⟨v, Blk.fr0 A A' row q1 hg hr, CInv.fr0 A A' row q2 hg hr⟩, ⟨u, Blk.fr0 A A' row q3 hg hr, StS.fr0 A A' row q4 hg hr⟩, Blk.fr0 A A' row h.en hg hr, Blk.fr0 A A' row h.b2 hg hr, h.h0, h.c0, h.c1⟩
end
end Go.Proofs.YtaeplneiicobgaaDoor
