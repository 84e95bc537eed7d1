/- A table's reader: its lines, one by one: the iterator's walk. -/
import Derived.Test.YtaeplneiicobgaaDoorV8
import Derived.Deep.RegionWith
set_option linter.unusedVariables false
set_option linter.unusedSimpArgs false
namespace Go.Proofs.YtaeplneiicobgaaDoor
open Go.RowKit
attribute [local go_sem] Oper.semAt_some
/-- How many lines the reader in block B has read. -/
def rdK (B : Nat) (W : World) : Nat := match W.cell? ⟨B, 2, none⟩ with
  | some (.int .i64 k) => k.toNat
  | _ => 0
theorem rdK_of {w : World} {B : Nat} {line : Int} {vl : Value} {s : RS} {W : World} (h : RI w B line vl s W) : rdK B W = s.k := by
  obtain ⟨vr, vd, hb, -, -⟩ := h.val
  have c2 : W.cell? ⟨B, 2, none⟩ = some (.int .i64 (s.k : Int)) := hb.cell 2
  unfold rdK
  rw [c2]
  simp
/-- A line more is read. -/
def RS.next (s : RS) : RS := { s with k := s.k + 1 }
theorem RI.next {w : World} {B : Nat} {line : Int} {vl : Value} {s : RS} {W : World} (h : RI w B line vl s W) : RI w B line vl s.next (W.setCell ⟨B, 2, none⟩ (.int .i64 ((s.k : Int) + 1))) :=
  h.put 2 _ rfl rfl (fun vr vd => by simp [RS.next, rdC])
set_option maxRecDepth 100000 in
set_option maxHeartbeats 4000000 in
theorem left_seq (m C B : Nat) (w : World) (line : Int) (L : List Txt) (a0 : Option Addr) (c0 : Nat) (st : RS → Txt → RS) (J : RS → World → Prop) (J1 : RS → Txt → World → Prop) (hL : L.length ≤ 1000000) (hS : Ss w (.slice a0 L.length c0) L)
    (hst : ∀ s x, s.k < (st s x).k)
    (hJr : ∀ s W, J s W → RI w B line (.slice a0 L.length c0) s W ∧ s.k ≤ L.length ∧ Blk W C 66 [.pointer (some ⟨B, 0, none⟩)])
    (hJb : ∀ s A A', J s A → Below A.heap.size A A' → J s A')
    (hJn : ∀ s A x, J s A → L[s.k]? = some x → J1 s x (A.setCell ⟨B, 2, none⟩ (.int .i64 ((s.k : Int) + 1))))
    (hJ1b : ∀ s x A A', J1 s x A → Below A.heap.size A A' → J1 s x A')
    (hJ1r : ∀ s x W, J1 s x W → RI w B line (.slice a0 L.length c0) s.next W ∧ Blk W C 66 [.pointer (some ⟨B, 0, none⟩)]) (s0 : RS) :
    SeqF Fence.wide m Tryd.prog 44 #[.pointer (some ⟨C, 0, none⟩)] encL (fun _ _ => True) st J J1 (fun W => ∃ s, J s W ∧ s.k = L.length) s0 := by
  intro l K Kx W1 hK hY h0 hk0
  have HR := Lib.hid hJr
  have HB := Lib.hid hJb
  have HN := Lib.hid hJn
  have HB1 := Lib.hid hJ1b
  have HR1 := Lib.hid hJ1r
  have H0 := Lib.hid h0
  have HK0 := Lib.hid hk0
  have HK := Lib.hid hK
  have HY := Lib.hid hY
  have HST := Lib.hid hst
  have HS := Lib.hid hS
  have kob : Hid (∀ A A', K A → Below A.heap.size A A' → K A') := Lib.hid fun A A' h q => hK A A' h ⟨q.size, fun k o hk _ => (q.block k (Array.getElem?_eq_some_iff.1 hk).1).trans hk⟩
  clear hJr hJb hJn hJ1b hJ1r h0 hk0 hK hY hst hS
  refine callsIn_of_wp Tryd.func44 rfl trivial ?_ rfl
  simp only [Tryd.ntmps44, List.size_toArray, List.length_cons, List.length_nil, Nat.reduceAdd, Nat.reduceSub, Array.replicate_succ, Array.replicate_zero, List.push_toArray, List.append_toArray, List.nil_append, List.cons_append]
  gi_wp2_with fail
  gi_loopw [3] (fun _ wr => ∃ s, Hid (J s wr) ∧ Hid (K wr)) (fun _ wr => L.length - rdK B wr)
  case atStart => exact ⟨s0, H0, HK0⟩
  case round =>
    obtain ⟨s, HJ, HKW⟩ := hrel
    obtain ⟨r0, r1, r2⟩ := HR.out _ _ HJ.out
    have HRI := Lib.hid r0
    obtain ⟨vr, vd, hb, -, -⟩ := r0.val
    have q0 : wr.cell? ⟨C, 0, none⟩ = some (.pointer (some ⟨B, 0, none⟩)) := r2.cell 0
    have q1 : wr.cell? ⟨B, 1, none⟩ = some (.slice a0 L.length c0) := hb.cell 1
    have q2 : wr.cell? ⟨B, 2, none⟩ = some (.int .i64 (s.k : Int)) := hb.cell 2
    have hfz : wr.frozen? ⟨B, 2, none⟩ = false := hb.frozen (by simp)
    clear r0 r2 hb
    by_cases hlt : s.k < L.length
    · have hlt' : (s.k : Int) < (L.length : Int) := by omega
      obtain ⟨x, hx⟩ : ∃ x, L[s.k]? = some x := ⟨L[s.k], List.getElem?_eq_getElem hlt⟩
      have f2 : wr.frozen? ⟨B, 2, none⟩ = false := hfz
      gi_wp2_with fail
      gi_quiet (fail)
      gi_wp2_with fail
      have hbd := Lib.hid (below_drewN (Below.refl wr.heap.size wr) nq)
      have HJd := Lib.hid (HB.out _ _ _ HJ.out hbd.out)
      have HKd := Lib.hid (kob.out _ _ HKW.out hbd.out)
      have HV := Lib.hid (HN.out s (wr.drewN nq) x HJd.out hx)
      have HKV := Lib.hid (HK.out _ _ HKd.out (KeepsOthers.setCell (wr.drewN nq) ⟨B, 2, none⟩ (.int .i64 ((s.k : Int) + 1))))
      obtain ⟨V, hV⟩ : ∃ V, (wr.drewN nq).setCell ⟨B, 2, none⟩ (.int .i64 ((s.k : Int) + 1)) = V := ⟨_, rfl⟩
      rw [hV] at HV HKV ⊢
      have hbv := Lib.hid (Below.refl V.heap.size V).drew
      have HVd := Lib.hid (HB1.out _ _ _ _ HV.out hbv.out)
      have HKVd := Lib.hid (kob.out _ _ HKV.out hbv.out)
      obtain ⟨t0, t2⟩ := HR1.out _ _ _ HV.out
      have HSV := Lib.hid (HS.out.below t0.bel)
      obtain ⟨vr', vd', hb', -, -⟩ := t0.val
      have q0' : V.cell? ⟨C, 0, none⟩ = some (.pointer (some ⟨B, 0, none⟩)) := t2.cell 0
      have q1' : V.cell? ⟨B, 1, none⟩ = some (.slice a0 L.length c0) := hb'.cell 1
      have q2' : V.cell? ⟨B, 2, none⟩ = some (.int .i64 ((s.k : Int) + 1)) := by
        have h : V.cell? ⟨B, 2, none⟩ = some (.int .i64 (((s.k + 1 : Nat)) : Int)) := hb'.cell 2
        rw [h, Int.natCast_add]
        rfl
      obtain ⟨g, off, rfl, hx0⟩ := Ss.at HSV.out hx
      obtain ⟨fn, tmps, assign, body, hy, hRd⟩ := HY.out s x V.drew HVd.out HKVd.out
      have hy' : (Instr.yield l #[.string ⟨x.toArray⟩]).run Tryd.prog V.drew = .ok (.round l fn tmps assign body) V.drew := hy
      have HRR := Lib.hid (hRd.mono (R' := fun e W' => ∃ z, e = .returned (.bool z) ∧ ((z = true ∧ J (st s x) W' ∧ K W') ∨ (z = false ∧ Kx W'))) (by
        rintro e W3 (⟨rfl, h1, h2, -⟩ | ⟨rfl, h1⟩)
        · exact ⟨true, rfl, .inl ⟨rfl, h1, h2⟩⟩
        · exact ⟨false, rfl, .inr ⟨rfl, h1⟩⟩))
      have w1 : IntKind.i64.wrap ((s.k : Int) + 1 - 1) = (s.k : Int) := by rw [show (s.k : Int) + 1 - 1 = (s.k : Int) by omega]; exact wrap_any9 (by omega) (by omega)
      have hk0 : (0 : Int) ≤ (s.k : Int) := by omega
      have w0 : IntKind.i64.wrap (s.k : Int) = (s.k : Int) := wrap_any9 (by omega) (by omega)
      have d1 : decide ((s.k : Int) < (L.length : Int)) = true := decide_eq_true hlt'
      have d2 : decide (0 ≤ (s.k : Int)) = true := decide_eq_true hk0
      have HRK := Lib.hid (rdK_of HRI.out)
      clear t0 t2 hb' hy hRd hV hx q0 q1 q2 f2 hbd HJd HKd
      refine wpIn_only ?_
      gi_region_with (refine ⟨fun h => (by cases h), ?_⟩; refine HRR.out.mono ?_; rintro e W3 ⟨z, rfl, hz⟩)
      all_goals
        have HZ := Lib.hid hz
        clear hz HRR HY hy' HB1 HB HN
        cases z
        · have HX3 : Hid (Kx W3) := Lib.hid (by rcases HZ.out with ⟨q, -⟩ | ⟨-, q⟩ <;> first | exact q | cases q)
          clear HZ
          gi_wp2_with fail
          refine bodyPost_ret (results_none rfl _ _ _) rfl ?_
          exact ⟨⟨_, rfl⟩, .inr HX3.out⟩
        · have HX3 : Hid (J (st s x) W3 ∧ K W3) := Lib.hid (by rcases HZ.out with ⟨-, q⟩ | ⟨q, -⟩ <;> first | exact q | cases q)
          clear HZ
          gi_wp2_with fail
          go_simp
          go_roundw
          case rel => exact ⟨⟨st s x, Lib.hid HX3.out.1⟩, Lib.hid HX3.out.2⟩
          case measure =>
            have h1 := rdK_of (HR.out _ _ HX3.out.1).1
            have h2 := HST.out s x
            rw [h1, HRK.out]
            omega
    · have he : s.k = L.length := by omega
      have hge : ¬ (s.k : Int) < (L.length : Int) := by omega
      gi_wp2_with fail
      gi_quiet (fail)
      gi_wp2_with fail
      go_end0
      have hbd := below_drewN (Below.refl wr.heap.size wr) nq
      exact ⟨⟨_, rfl⟩, .inl ⟨⟨s, HB.out _ _ _ HJ.out hbd, he⟩, kob.out _ _ HKW.out hbd⟩⟩
end Go.Proofs.YtaeplneiicobgaaDoor
