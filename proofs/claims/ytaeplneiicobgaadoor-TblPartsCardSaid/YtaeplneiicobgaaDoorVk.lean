/- A table's reader: Parse. -/
import Derived.Test.YtaeplneiicobgaaDoorVj
import Derived.Test.YtaeplneiicobgaaDoorQa
import Derived.StillTailTactics
set_option linter.unusedVariables false
set_option linter.unusedSimpArgs false
namespace Go.Proofs.YtaeplneiicobgaaDoor
open Go.RowKit
attribute [local go_sem] Oper.semAt_some
set_option maxRecDepth 100000 in
set_option maxHeartbeats 8000000 in
theorem parse_in9 (line : Int) (L : List Txt) (a0 : Option Addr) (c0 : Nat) (w : World) (h0 : 0 ≤ line) (h1 : line ≤ 100000) (hU : U8 w) (hS : Ss w (.slice a0 L.length c0) L) (hl : lnT L ≤ 40000) (hL : ∀ s ∈ L, s.length ≤ 2000) :
    CallsIn Fence.wide 9 Tryd.prog 15 #[.int .i64 line, .slice a0 L.length c0] w fun e W' => ∃ (r : PV) (vd : Value), e = .returned (.tuple #[tabV (parseP lgF line L).1 r, vd]) ∧ PaF w (pv r) vd (parseP lgF line L).1.rows (parseP lgF line L).2 W' := by
  have hn : L.length ≤ 40000 := by have := lnT_num L; omega
  obtain ⟨PP, hPP⟩ : ∃ PP, parseP lgF line L = PP := ⟨_, rfl⟩
  rw [hPP]
  obtain ⟨pS1, pS2, pS3, pS4⟩ := lookS_P line L
  obtain ⟨U1, hU1⟩ : ∃ U1, w.alloc (.cells #[.string ⟨#[]⟩, .slice none 0 0, .bool false, .bool false] 36) = U1 := ⟨_, rfl⟩
  obtain ⟨U2, hU2⟩ : ∃ U2, U1.alloc (.cells #[.int .i64 line, .slice a0 L.length c0, .int .i64 0, .string ⟨#[]⟩, .slice none 0 0, .bool false, .bool false, .slice none 0 0] 68) = U2 := ⟨_, rfl⟩
  obtain ⟨U3, hU3⟩ : ∃ U3, U2.alloc (.cells #[.pointer (some ⟨w.heap.size + 1, 0, none⟩)] 66) = U3 := ⟨_, rfl⟩
  have z1 : U1.heap.size = w.heap.size + 1 := by rw [← hU1]; simp
  have z2 : U2.heap.size = w.heap.size + 2 := by rw [← hU2]; simp [z1]
  have z3 : U3.heap.size = w.heap.size + 3 := by rw [← hU3]; simp [z2]
  have b1 : Below w.heap.size w U1 := by rw [← hU1]; exact below_lit w _
  have b2 : Below U1.heap.size U1 U2 := by rw [← hU2]; exact below_lit U1 _
  have b3 : Below U2.heap.size U2 U3 := by rw [← hU3]; exact below_lit U2 _
  have k1 : Blk U1 w.heap.size 36 [.string ⟨#[]⟩, .slice none 0 0, .bool false, .bool false] := by rw [← hU1]; exact heap_alloc_new w _
  have k2 : Blk U2 (w.heap.size + 1) 68 [.int .i64 line, .slice a0 L.length c0, .int .i64 0, .string ⟨#[]⟩, .slice none 0 0, .bool false, .bool false, .slice none 0 0] := by rw [← hU2, ← z1]; exact heap_alloc_new U1 _
  have k3 : Blk U3 (w.heap.size + 2) 66 [.pointer (some ⟨w.heap.size + 1, 0, none⟩)] := by rw [← hU3, ← z2]; exact heap_alloc_new U2 _
  obtain ⟨B, hB⟩ : ∃ B, w.heap.size + 1 = B := ⟨_, rfl⟩
  have hRI : RI w B line (.slice a0 L.length c0) s00 U3 := by
    refine ⟨by omega, b1.trans ((b2.trans (b3.mono (by omega))).mono (by omega)), .slice none 0 0, .slice none 0 0, ?_, WInv.nil _ _, FOwn.nil _ _⟩
    rw [← hB]
    exact k2.below b3
  have hM0 : PaM w B (w.heap.size + 2) (w.heap.size + 2) w.heap.size line (.slice a0 L.length c0) s00 U3 := ⟨hRI, by rw [← hB]; exact k3, by rw [← hB]; exact k3, k1.below (b2.trans (b3.mono (by omega)))⟩
  have LK : Hid (CallsIn Fence.wide 8 Tryd.prog 26 #[.pointer (some ⟨B, 0, none⟩)] U3 fun e V => e = .returned (.tuple #[]) ∧ PaM w B (w.heap.size + 2) (w.heap.size + 2) w.heap.size line (.slice a0 L.length c0) (lookS line L) V) := Lib.hid (callsIn_wide.2 ((rlook_any9 L U3 hRI hS hU hL hn h0 h1).mono fun e V ⟨q1, q2, q3⟩ => ⟨q1, hM0.go q2 q3.w⟩))
  have CO : Hid (∀ V, PaM w B (w.heap.size + 2) (w.heap.size + 2) w.heap.size line (.slice a0 L.length c0) (lookS line L) V → CallsIn Fence.wide 8 Tryd.prog 27 #[.pointer (some ⟨B, 0, none⟩)] V fun e V' => e = .returned (.tuple #[]) ∧ ∃ s, PaM w B (w.heap.size + 2) (w.heap.size + 2) w.heap.size line (.slice a0 L.length c0) s V' ∧ CoE L line (lookS line L) (colsP (L.drop (lookS line L).k) (line + (lookS line L).k) [] (lookS line L).d) s) := Lib.hid fun V hV => callsIn_wide.2 ((rcolumns_any9 L _ V hV.ri hS hU hL hn h0 h1 pS2 pS3).mono fun e V' ⟨q1, s, q2, q3, q4⟩ => ⟨q1, s, hV.go q2 q3.w, q4⟩)
  have L1 : Hid (∀ V, CallsIn Fence.wide 8 Tryd.prog 28 #[.pointer (some ⟨B, 0, none⟩)] V fun e w' => e = .returned (.func (.func 44) #[] #[.pointer (some ⟨V.heap.size, 0, none⟩)]) ∧ V.alloc (.cells #[.pointer (some ⟨B, 0, none⟩)] 66) = w') := Lib.hid fun V => callsIn_wide.2 (left9_any B V)
  have R3 : Hid (U3.cell? ⟨w.heap.size + 2, 0, none⟩ = some (.pointer (some ⟨B, 0, none⟩))) := Lib.hid (hM0.b1.cell 0)
  refine callsIn_of_wp_marks Tryd.func15 rfl trivial ?_ rfl
  simp only [Tryd.ntmps15, List.size_toArray, List.length_cons, List.length_nil, Nat.reduceAdd, Nat.reduceSub, Array.replicate_succ, Array.replicate_zero, List.push_toArray, List.append_toArray, List.nil_append, List.cons_append]
  clear hM0 hRI k1 k2 k3
  gi_wp2_with fail
  try rw [hB] at hU3
  rw [hU3]
  gi_wp2_with (first
    | (refine ⟨trivial, ?_⟩; gi_at_call 26; refine LK.out.mono ?_; rintro e V1 ⟨rfl, m1⟩; have M1 := Lib.hid m1; have p1 : V1.cell? ⟨w.heap.size + 2, 0, none⟩ = some (.pointer (some ⟨B, 0, none⟩)) := m1.b1.cell 0; clear m1)
    | (refine ⟨trivial, ?_⟩; gi_at_call 27; refine (CO.out _ M1.out).mono ?_; rintro e V2 ⟨rfl, sC, m2, hC⟩; have M2 := Lib.hid m2; have HC := Lib.hid hC; have p2 : V2.cell? ⟨w.heap.size + 2, 0, none⟩ = some (.pointer (some ⟨B, 0, none⟩)) := m2.b1.cell 0; clear m2 hC)
    | (refine ⟨trivial, ?_⟩; gi_at_call 28; refine (L1.out _).mono ?_; rintro e w' ⟨rfl, rfl⟩))
  have HS := Lib.hid hS
  have HU := Lib.hid hU
  have HLn := Lib.hid hL
  have hWz : w.heap.size + 2 < V2.heap.size := by have := (Array.getElem?_eq_some_iff.1 M2.out.b1).1; omega
  obtain ⟨T, hT⟩ : ∃ T, rowsP lgF sC.cols.length (L.drop sC.k).length (L.drop sC.k) (line + sC.k) [] sC.d = T := ⟨_, rfl⟩
  have hr0 : sC.rows = [] := HC.out.rows.trans pS4
  have hK0 : PaK L line sC T sC := ⟨HC.out.kl, Nat.le_refl _, by rw [hr0]; exact Nat.zero_le _, rfl, rfl, rfl, _, Nat.le_refl _, by rw [hr0]; exact hT⟩
  have hcl : sC.cols.length ≤ 20 := by
    rw [HC.out.cols]
    have := colsP_len9 (L.drop (lookS line L).k) (line + (lookS line L).k) [] (lookS line L).d (by simp)
    split
    · simp
    · exact this
  have HT := Lib.hid hT
  have hdC : sC.d.length + 2 * lnT (L.drop sC.k) ≤ 170000 := by
    have e1 := HC.out.dl
    have e2 := HC.out.kl
    have e3 := lnT_drop_le L sC.k
    omega
  obtain ⟨V3, hV3⟩ : ∃ V3, V2.alloc (.cells #[.pointer (some ⟨B, 0, none⟩)] 66) = V3 := ⟨_, rfl⟩
  rw [hV3]
  have hM0 : PaM w B (w.heap.size + 2) V2.heap.size w.heap.size line (.slice a0 L.length c0) sC V3 := by
    have h := M2.out.keep (below_lit V2 (.cells #[.pointer (some ⟨B, 0, none⟩)] 66))
    rw [hV3] at h
    exact ⟨h.ri, h.b1, by rw [← hV3]; exact heap_alloc_new V2 _, h.res⟩
  have hz3 : V3.heap.size = V2.heap.size + 1 := by rw [← hV3]; simp
  have HROW : Hid (∀ (s : RS) x V l m, PaM w B (w.heap.size + 2) V2.heap.size w.heap.size line (.slice a0 L.length c0) s.next V → L[s.k]? = some x → PaK L line sC T s → CallsIn (Fence.wide.inRound l) m Tryd.prog 29 #[.pointer (some ⟨B, 0, none⟩), .string ⟨x.toArray⟩] V fun e V' => e = .returned (.tuple #[]) ∧ PaM w B (w.heap.size + 2) V2.heap.size w.heap.size line (.slice a0 L.length c0) (rowS L line s x) V' ∧ KeepsOthers V V' ∧ PaK L line sC T (rowS L line s x)) := Lib.hid fun s x V l m hV hx hK => by
    have e1 := hK.dl
    have e2 := hK.rl
    have e3 := (List.getElem?_eq_some_iff.1 hx).1
    have e4 : s.next.cols.length ≤ 20 := by show s.cols.length ≤ 20; rw [hK.cols]; exact hcl
    refine CallsIn.inRound l (callsIn_wide.2 ((row_any9 L s.next x V hV.ri HS.out HU.out HLn.out hl hn h0 h1 (HLn.out x (List.mem_of_getElem? hx)) (by show s.k + 1 ≤ _; omega) (by show s.d.length ≤ _; omega) (by show s.rows.length ≤ _; omega) (by omega)).mono ?_))
    rintro e V' ⟨s', rfl, r1, f1, hE⟩
    have e5 := hE.eq9
    subst e5
    exact ⟨rfl, hV.go r1 f1, f1.ko, hK.step hx hE⟩
  clear LK CO L1 R3 hU1 hU2 hU3 M1 p1 p2 b1 b2 b3 z1 z2 z3 hT hr0 hdC hcl hU hS hL
  refine range_fr rfl (by decide) (gf := 44) (lb := #[.pointer (some ⟨V2.heap.size, 0, none⟩)]) rfl trivial (enters_of Tryd.func44 (by kernel_rfl) rfl)
    (left_seq 8 V2.heap.size B w line L a0 c0 (rowS L line) (fun s V => PaM w B (w.heap.size + 2) V2.heap.size w.heap.size line (.slice a0 L.length c0) s V ∧ PaK L line sC T s) (fun s x V => PaM w B (w.heap.size + 2) V2.heap.size w.heap.size line (.slice a0 L.length c0) s.next V ∧ (L[s.k]? = some x ∧ PaK L line sC T s)) (by omega) HS.out
      (fun s x => by show s.k < max (s.k + 1) _; omega)
      (fun s V h => ⟨h.1.ri, h.2.kl, h.1.b2⟩)
      (fun s A A' h hb => ⟨h.1.keep hb, h.2⟩)
      (fun s A x h hx => ⟨h.1.go h.1.ri.next (h.1.ri.frp 2 _).w, hx, h.2⟩)
      (fun s x A A' h hb => ⟨h.1.keep hb, h.2⟩)
      (fun s x V h => ⟨h.1.ri, h.1.b2⟩) sC)
    (fun _ _ => trivial) (fun _ _ _ _ _ _ _ => trivial) (fun _ => rfl)
    (fun c V => False)
    (fun s => (PaM.fr0 (by omega)).and (Fr0.pure _ _))
    (fun s x => (PaM.fr0 (by omega)).and (Fr0.pure _ _))
    (fun c => Fr0.pure _ _)
    (Fr0.ex fun s => ((PaM.fr0 (by omega)).and (Fr0.pure _ _)).and (Fr0.pure _ _))
    ⟨hM0, hK0⟩
    (fun x => { tmps := #[.int .i64 line, .slice a0 L.length c0, undef, undef, .pointer (some ⟨w.heap.size, 0, none⟩), .slice none 0 0, .pointer (some ⟨w.heap.size + 2, 0, none⟩), .string ⟨x.toArray⟩, .int .i64 line, .slice a0 L.length c0, .agg #[.int .i64 line, .slice a0 L.length c0, .int .i64 0, .string ⟨#[]⟩, .slice none 0 0, .bool false, .bool false, .slice none 0 0], .pointer (some ⟨B, 0, none⟩), .pointer (some ⟨B, 0, none⟩), .tuple #[], .pointer (some ⟨B, 0, none⟩), .tuple #[], .pointer (some ⟨B, 0, none⟩), .func (.func 44) #[] #[.pointer (some ⟨V2.heap.size, 0, none⟩)], .string ⟨x.toArray⟩, undef, undef, undef, undef, undef, undef, undef, undef, undef, undef, undef, undef], defers := [] }) ?assign ?body ?done ?stop
  case assign =>
    intro l x V K hK
    simp only [encL]
    gi_wp2
    exact hK
  case body =>
    rintro l s x V ⟨hM, hx, hK⟩
    have q1 : V.cell? ⟨w.heap.size + 2, 0, none⟩ = some (.pointer (some ⟨B, 0, none⟩)) := hM.b1.cell 0
    have HR1 := Lib.hid (fun m => HROW.out s x V l m hM hx hK)
    clear hM hK hx hM0 hK0 HROW
    gi_wp2_with (refine ⟨trivial, ?_⟩; gi_at_call 29; refine (HR1.out _).mono ?_; rintro e V4 ⟨rfl, m1, ko1, kk1⟩; have M4 := Lib.hid m1; have KO4 := Lib.hid ko1; have KK4 := Lib.hid kk1; clear m1 ko1 kk1)
    exact ⟨KO4.out.from _, trivial, M4.out, KK4.out⟩
  case done =>
    rintro D V hD ⟨s, ⟨hM, hK⟩, hk⟩ hdef
    have hT2 : T = (s.rows, s.d) := hK.fin hk
    have hP := parse_of9 HC.out (HT.out.trans hT2) hK.cols hK.bx hK.al
    have htr := parse_trls9 (L := L) (HT.out.trans hT2)
    have hcl2 : s.cols.length ≤ 90000 := by
      rw [hK.cols, HC.out.cols]
      have := colsP_len9 (L.drop (lookS line L).k) (line + (lookS line L).k) [] (lookS line L).d (by simp)
      split
      · simp
      · omega
    rw [hPP] at hP
    have hMd := hM.keep (Below.refl V.heap.size V).drew
    obtain ⟨vr, vd, hb, hw, hdo⟩ := hMd.ri.val
    obtain ⟨ra, rc, rfl⟩ := hw.len
    have q0 : V.drew.cell? ⟨w.heap.size + 2, 0, none⟩ = some (.pointer (some ⟨B, 0, none⟩)) := hMd.b1.cell 0
    have q3 : V.drew.cell? ⟨B, 3, none⟩ = some (.string ⟨s.cols.toArray⟩) := hb.cell 3
    have q4 : V.drew.cell? ⟨B, 4, none⟩ = some (.slice ra s.rows.length rc) := hb.cell 4
    have q5 : V.drew.cell? ⟨B, 5, none⟩ = some (.bool s.bx) := hb.cell 5
    have q6 : V.drew.cell? ⟨B, 6, none⟩ = some (.bool s.al) := hb.cell 6
    have q7 : V.drew.cell? ⟨B, 7, none⟩ = some vd := hb.cell 7
    obtain ⟨m, hm⟩ : ∃ m, mend ⟨s.cols, s.rows, s.bx, s.al⟩ = m := ⟨_, rfl⟩
    have HMD : Hid (Calls Tryd.prog 30 #[.agg #[.string ⟨s.cols.toArray⟩, .slice ra s.rows.length rc, .bool s.bx, .bool s.al]] V.drew fun e V' => ∃ sa sn sc, e = .returned (.agg #[.string ⟨m.cols.toArray⟩, .slice sa sn sc, .bool m.box, .bool m.all]) ∧
        V'.cell? ⟨w.heap.size + 2, 0, none⟩ = some (.pointer (some ⟨B, 0, none⟩)) ∧ V'.cell? ⟨B, 7, none⟩ = some vd ∧ V'.heap[D]? = some (.deferred (some [])) ∧ Hid (Blk V' w.heap.size 36 [.string ⟨#[]⟩, .slice none 0 0, .bool false, .bool false]) ∧ Hid (PaF w (.slice sa sn sc) vd m.rows s.d V')) := Lib.hid (by
      have h := pmend_any (fun b => w.heap.size ≤ b ∧ b < V.drew.heap.size) ⟨s.cols, s.rows, s.bx, s.al⟩ (ra, s.rows.length, rc) V.drew (HU.out.below hMd.ri.bel) hw.trs hcl2 (by show trls s.rows ≤ _; omega) (fun x hx => hx.2)
      rw [hm] at h
      refine h.mono ?_
      rintro e V' ⟨⟨sa, sn, sc⟩, rfl, g1, g2⟩
      exact ⟨sa, sn, sc, rfl, (hMd.b1.below g2).cell 0, (hb.below g2).cell 7, (g2.block D (by have := (Array.getElem?_eq_some_iff.1 hdef).1; exact this)).trans hdef, Lib.hid (hMd.res.below g2), Lib.hid ⟨hMd.ri.bel.trans (g2.mono hMd.ri.bel.size), g1.low9 hMd.ri.bel.size, hdo.keep g2⟩⟩)
    rw [hm] at hP
    have HPM := Lib.hid hP
    clear hM hK hT2 hP htr hcl2 hMd hb hw hdo hm hM0 hK0 HROW hk hdef
    gi_wp2_with fail
    refine wpIn_only ?_
    refine wpIn_wide.2 ?_
    go_region_with (go_at_call 30; refine HMD.out.mono ?_; rintro e V' ⟨sa, sn, sc, rfl, u0, u7, uD, hBR, hPF⟩; have r0 : V'.cell? ⟨w.heap.size, 0, none⟩ = some (.string ⟨#[]⟩) := hBR.out.cell 0; have r1 : V'.cell? ⟨w.heap.size, 1, none⟩ = some (.slice none 0 0) := hBR.out.cell 1; have r2 : V'.cell? ⟨w.heap.size, 2, none⟩ = some (.bool false) := hBR.out.cell 2; have r3 : V'.cell? ⟨w.heap.size, 3, none⟩ = some (.bool false) := hBR.out.cell 3; have z0 : V'.frozen? ⟨w.heap.size, 0, none⟩ = false := hBR.out.frozen (by simp); have z1 : V'.frozen? ⟨w.heap.size, 1, none⟩ = false := hBR.out.frozen (by simp); have z2 : V'.frozen? ⟨w.heap.size, 2, none⟩ = false := hBR.out.frozen (by simp); have z3 : V'.frozen? ⟨w.heap.size, 3, none⟩ = false := hBR.out.frozen (by simp))
    all_goals
      gi_wp2_with fail
      have hB1 := hBR.out.set 0 (.string ⟨m.cols.toArray⟩)
      have hB2 := hB1.set 1 (.slice sa sn sc)
      have hB3 := hB2.set 2 (.bool m.box)
      have hB4 := hB3.set 3 (.bool m.all)
      have hP1 := hPF.out.set (Nat.le_refl _) hBR.out 0 (.string ⟨m.cols.toArray⟩)
      have hP2 := hP1.set (Nat.le_refl _) hB1 1 (.slice sa sn sc)
      have hP3 := hP2.set (Nat.le_refl _) hB2 2 (.bool m.box)
      have hP4 := hP3.set (Nat.le_refl _) hB3 3 (.bool m.all)
      have hd5 := (KeepsOthers.setCell _ ⟨w.heap.size, 3, none⟩ (.bool m.all)).same D _ ((KeepsOthers.setCell _ ⟨w.heap.size, 2, none⟩ (.bool m.box)).same D _ ((KeepsOthers.setCell _ ⟨w.heap.size, 1, none⟩ (.slice sa sn sc)).same D _ ((KeepsOthers.setCell V' ⟨w.heap.size, 0, none⟩ (.string ⟨m.cols.toArray⟩)).same D _ uD rfl) rfl) rfl) rfl
      obtain ⟨W5, hW5⟩ : ∃ W5, ((((V'.setCell ⟨w.heap.size, 0, none⟩ (.string ⟨m.cols.toArray⟩)).setCell ⟨w.heap.size, 1, none⟩ (.slice sa sn sc)).setCell ⟨w.heap.size, 2, none⟩ (.bool m.box)).setCell ⟨w.heap.size, 3, none⟩ (.bool m.all)) = W5 := ⟨_, rfl⟩
      rw [hW5] at hB4 hP4 hd5 ⊢
      have k : ∀ o', Blk (W5.putObj D o') w.heap.size 36 [.string ⟨m.cols.toArray⟩, .slice sa sn sc, .bool m.box, .bool m.all] := fun o' => Blk.fr0.put (B := 0) o' hB4 (Nat.zero_le _) hd5 rfl
      have k0 := fun o' => (k o').cell 0
      have k1 := fun o' => (k o').cell 1
      have k2 := fun o' => (k o').cell 2
      have k3 := fun o' => (k o').cell 3
      simp at k0 k1 k2 k3
      refine ⟨by simp [Act.put], .inl ⟨_, _, rfl, run_takeDeferred (w := W5) hd5, ?_⟩⟩
      refine ⟨.tuple #[.agg #[.string ⟨m.cols.toArray⟩, .slice sa sn sc, .bool m.box, .bool m.all], vd], ?_, (sa, sn, sc), vd, ?_, ?_⟩
      · simp [results, Tryd.results15, Act.put, go_sem, k0, k1, k2, k3]
      · rw [HPM.out]; rfl
      · rw [HPM.out]
        exact (PaF.fr0 (Nat.le_refl _)).put _ hP4 (by omega) hd5 rfl
  case stop =>
    rintro D c V hD h hdef
    exact h.elim
end Go.Proofs.YtaeplneiicobgaaDoor
