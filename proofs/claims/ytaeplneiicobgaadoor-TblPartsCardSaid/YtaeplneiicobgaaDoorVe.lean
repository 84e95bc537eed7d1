/- A table's reader: the lines of columns. -/
import Derived.Test.YtaeplneiicobgaaDoorVd
import Derived.StillTailTactics
set_option linter.unusedVariables false
set_option linter.unusedSimpArgs false
namespace Go.Proofs.YtaeplneiicobgaaDoor
open Go.RowKit
attribute [local go_sem] Oper.semAt_some
abbrev ColT := Txt × Bool × List Dgn × List Txt × Int
/-- What the reading of columns keeps to, and what the rest of it will tell. -/
structure CoK (L : List Txt) (line : Int) (s0 : RS) (T : ColT) (s : RS) : Prop where
  kl : s.k ≤ L.length
  dl : s.d.length ≤ 1 + 2 * s.k
  rows : s.rows = s0.rows
  bx : s.bx = s0.bx
  al : s.al = s0.al
  inv : ∃ mc : Txt, s.cols = (if mc = [] then [108] else mc) ∧ colsP (L.drop s.k) (line + s.k) mc s.d = T
/-- What has been told at the end of them. -/
structure CoE (L : List Txt) (line : Int) (s0 : RS) (T : ColT) (s : RS) : Prop where
  kl : s.k ≤ L.length
  dl : s.d.length ≤ 2 + 2 * s.k
  rows : s.rows = s0.rows
  bx : s.bx = s0.bx
  al : s.al = s0.al
  cols : s.cols = (if T.1 = [] then [108] else T.1)
  d : s.d = T.2.2.1 ++ (if T.2.1 then [] else [(7, line, 0)])
  rest : L.drop s.k = T.2.2.2.1
  ln : T.2.2.2.2 = line + s.k
theorem col_k (line : Int) (s : RS) (x : Txt) : (s.next.col line x).k = s.k + 1 := rfl
theorem CoK.step {L : List Txt} {line : Int} {s0 : RS} {T : ColT} {s : RS} (h : CoK L line s0 T s) {x : Txt} (hx : L[s.k]? = some x) :
    (endsB x 46 = false → CoK L line s0 T (s.next.col line x)) ∧ (endsB x 46 = true → CoE L line s0 T (s.next.col line x)) := by
  obtain ⟨mc, h1, h2⟩ := h.inv
  have hlt := (List.getElem?_eq_some_iff.1 hx).1
  rw [drop_one9 hx] at h2
  unfold colsP at h2
  simp only at h2
  have hk := col_k line s x
  have hkk : ((s.next.k : Nat) : Int) = (s.k : Int) + 1 := by show ((s.k + 1 : Nat) : Int) = _; omega
  have hln : line + ((s.next.k : Nat) : Int) - 1 = line + s.k := by rw [hkk]; omega
  have hd : (s.next.col line x).d = s.d ++ (if (colsB x).2 then [] else [(10, line + (s.k : Int), 0)]) ++ (if 20 < (colsB x).1.length then [(11, line + (s.k : Int), 0)] else []) := by
    show s.d ++ (if (colsB x).2 then [] else [(10, line + ((s.next.k : Nat) : Int) - 1, 0)]) ++ (if 20 < (colsB x).1.length then [(11, line + ((s.next.k : Nat) : Int) - 1, 0)] else []) = _
    rw [hln]
  have hc : (s.next.col line x).cols = (if (if (colsB x).1 = [] then mc else (colsB x).1.take 20) = [] then [108] else (if (colsB x).1 = [] then mc else (colsB x).1.take 20)) := by
    show (if (colsB x).1 = [] then s.cols else (colsB x).1.take 20) = _
    by_cases q : (colsB x).1 = []
    · rw [if_pos q, if_pos q, h1]
    · rw [if_neg q, if_neg q, if_neg]
      intro e
      apply q
      cases hcc : (colsB x).1 with
      | nil => rfl
      | cons a b => rw [hcc] at e; simp at e
  have hdl : (s.next.col line x).d.length ≤ s.d.length + 2 := by
    rw [hd]
    simp only [List.length_append]
    split <;> split <;> simp
  have h3 := h.dl
  rw [← hd] at h2
  refine ⟨fun he => ?_, fun he => ?_⟩
  · rw [if_neg (by rw [he]; simp)] at h2
    refine ⟨by rw [hk]; omega, by rw [hk]; omega, h.rows, h.bx, h.al, _, hc, ?_⟩
    rw [hk, ← h2, Int.natCast_add, ← Int.add_assoc]
    rfl
  · rw [if_pos he] at h2
    subst h2
    refine ⟨by rw [hk]; omega, by rw [hk]; omega, h.rows, h.bx, h.al, hc, by simp, rfl, ?_⟩
    show line + (s.k : Int) + 1 = line + ((s.k + 1 : Nat) : Int)
    omega
theorem CoK.fin {L : List Txt} {line : Int} {s0 : RS} {T : ColT} {s : RS} (h : CoK L line s0 T s) (hk : s.k = L.length) : CoE L line s0 T { s with d := s.d ++ [(7, line, 0)] } := by
  obtain ⟨mc, h1, h2⟩ := h.inv
  rw [hk, List.drop_length] at h2
  unfold colsP at h2
  subst h2
  have h3 := h.dl
  refine ⟨h.kl, by simp; omega, h.rows, h.bx, h.al, h1, by simp, ?_, ?_⟩
  · show L.drop s.k = []
    rw [hk, List.drop_length]
  · show line + (L.length : Int) = line + (s.k : Int)
    rw [hk]
/-- Between two lines of columns, in memory. -/
structure CoM (w W0 : World) (B C : Nat) (line : Int) (vl : Value) (s : RS) (W : World) : Prop where
  ri : RI w B line vl s W
  fr : FrR W0 W
  b1 : Blk W C 66 [.pointer (some ⟨B, 0, none⟩)]
  b2 : Blk W (C + 1) 66 [.pointer (some ⟨B, 0, none⟩)]
theorem CoM.keep {w W0 : World} {B C : Nat} {line : Int} {vl : Value} {s : RS} {A A' : World} (h : CoM w W0 B C line vl s A) (hb : Below A.heap.size A A') : CoM w W0 B C line vl s A' :=
  ⟨h.ri.keep hb, h.fr.trans (FrR.below hb), h.b1.below hb, h.b2.below hb⟩
theorem CoM.go {w W0 : World} {B C : Nat} {line : Int} {vl : Value} {s s' : RS} {A A' : World} (h : CoM w W0 B C line vl s A) (hr : RI w B line vl s' A') (hf : FrR A A') : CoM w W0 B C line vl s' A' :=
  ⟨hr, h.fr.trans hf, hf.blk h.b1 (by decide) (by decide), hf.blk h.b2 (by decide) (by decide)⟩
theorem CoM.fr0 {w W0 : World} {B C : Nat} {line : Int} {vl : Value} {s : RS} {B' : Nat} (h1 : w.heap.size ≤ B') (h2 : W0.heap.size ≤ B') : Fr0 B' (CoM w W0 B C line vl s) := fun A A' row h hg hr =>
  ⟨RI.fr0 h1 A A' row h.ri hg hr, FrR.fr0 h2 A A' row h.fr hg hr, Blk.fr0 A A' row h.b1 hg hr, Blk.fr0 A A' row h.b2 hg hr⟩
set_option maxRecDepth 100000 in
set_option maxHeartbeats 4000000 in
theorem rcolumns_in9 {w : World} {B : Nat} {line : Int} {a0 : Option Addr} {c0 : Nat} (L : List Txt) (s0 : RS) (W : World) (hRI : RI w B line (.slice a0 L.length c0) s0 W) (hS : Ss w (.slice a0 L.length c0) L) (hU : U8 w) (hL : ∀ x ∈ L, x.length ≤ 2000) (hl : L.length ≤ 40000) (h0 : 0 ≤ line) (h1 : line ≤ 100000)
    (hk0 : s0.k ≤ L.length) (hd0 : s0.d.length ≤ 1 + 2 * s0.k) :
    CallsIn Fence.wide 9 Tryd.prog 27 #[.pointer (some ⟨B, 0, none⟩)] W fun e W' => e = .returned (.tuple #[]) ∧ ∃ s, RI w B line (.slice a0 L.length c0) s W' ∧ FrR W W' ∧ CoE L line s0 (colsP (L.drop s0.k) (line + s0.k) [] s0.d) s := by
  obtain ⟨T, hT⟩ : ∃ T, colsP (L.drop s0.k) (line + s0.k) [] s0.d = T := ⟨_, rfl⟩
  rw [hT]
  have HC3 := Lib.hid hRI.c3
  have hlt := hRI.lt
  have L1 : Hid (∀ V, CallsIn Fence.wide 8 Tryd.prog 28 #[.pointer (some ⟨B, 0, none⟩)] V fun e w' => e = .returned (.func (.func 44) #[] #[.pointer (some ⟨V.heap.size, 0, none⟩)]) ∧ V.alloc (.cells #[.pointer (some ⟨B, 0, none⟩)] 66) = w') := Lib.hid fun V => callsIn_wide.2 (left9_any B V)
  have bA := below_lit W (.cells #[.pointer (some ⟨B, 0, none⟩)] 66)
  have kA := heap_alloc_new W (.cells #[.pointer (some ⟨B, 0, none⟩)] 66)
  have hRA := hRI.keep bA
  obtain ⟨q3, f3⟩ := hRA.c3
  refine callsIn_of_wp_marks Tryd.func27 rfl trivial ?_ rfl
  simp only [Tryd.ntmps27, List.size_toArray, List.length_cons, List.length_nil, Nat.reduceAdd, Nat.reduceSub, Array.replicate_succ, Array.replicate_zero, List.push_toArray, List.append_toArray, List.nil_append, List.cons_append]
  gi_wp2_with (refine ⟨trivial, ?_⟩; gi_at_call 28; refine (L1.out _).mono ?_; rintro e w' ⟨rfl, rfl⟩)
  have hpos : ∀ (A : World) (s : RS) x, L[s.k]? = some x → x.length ≤ 2000 := fun A s x hx => hL x (List.mem_of_getElem? hx)
  have hst0 : RI w B line (.slice a0 L.length c0) { s0 with cols := [108] } (W.setCell ⟨B, 3, none⟩ (.string ⟨#[108]⟩)) := hRI.put 3 _ rfl rfl (fun vr vd => rfl)
  have hK0 : CoK L line s0 T { s0 with cols := [108] } := ⟨hk0, hd0, rfl, rfl, rfl, [], rfl, hT⟩
  obtain ⟨VA, hVA⟩ : ∃ VA, W.setCell ⟨B, 3, none⟩ (.string ⟨#[108]⟩) = VA := ⟨_, rfl⟩
  have hzA : VA.heap.size = W.heap.size := by rw [← hVA]; simp
  have hFA : FrR W VA := by rw [← hVA]; exact hRI.frp 3 _
  rw [hVA] at hst0 ⊢
  obtain ⟨VB, hVB⟩ : ∃ VB, VA.alloc (.cells #[.pointer (some ⟨B, 0, none⟩)] 66) = VB := ⟨_, rfl⟩
  obtain ⟨VC, hVC⟩ : ∃ VC, VB.alloc (.cells #[.pointer (some ⟨B, 0, none⟩)] 66) = VC := ⟨_, rfl⟩
  rw [hVB, hVC]
  have hzB : VB.heap.size = W.heap.size + 1 := by rw [← hVB]; simp [hzA]
  have hzC : VC.heap.size = W.heap.size + 2 := by rw [← hVC]; simp [hzB]
  have bB : Below VA.heap.size VA VB := by rw [← hVB]; exact below_lit VA _
  have bC : Below VB.heap.size VB VC := by rw [← hVC]; exact below_lit VB _
  have kB : Blk VB W.heap.size 66 [.pointer (some ⟨B, 0, none⟩)] := by rw [← hVB, ← hzA]; exact heap_alloc_new VA _
  have kC : Blk VC (W.heap.size + 1) 66 [.pointer (some ⟨B, 0, none⟩)] := by rw [← hVC, ← hzB]; exact heap_alloc_new VB _
  have hM0 : CoM w W B W.heap.size line (.slice a0 L.length c0) { s0 with cols := [108] } VC := ⟨(hst0.keep bB).keep bC, (hFA.trans (FrR.below bB)).trans (FrR.below bC), kB.below bC, kC⟩
  have hWs := hRI.bel.size
  have HRI := Lib.hid hRI
  have HU := Lib.hid hU
  have HCOL : Hid (∀ (s : RS) x V l m, CoM w W B W.heap.size line (.slice a0 L.length c0) s V → s.k ≤ L.length → s.d.length ≤ 1 + 2 * s.k → x.length ≤ 2000 → CallsIn (Fence.wide.inRound l) m Tryd.prog 43 #[.pointer (some ⟨B, 0, none⟩), .string ⟨x.toArray⟩] V fun e V' => e = .returned (.tuple #[]) ∧ CoM w W B W.heap.size line (.slice a0 L.length c0) (s.col line x) V' ∧ FrR V V') := Lib.hid fun s x V l m hV hk hd hx =>
    CallsIn.inRound l (callsIn_wide.2 ((column_any x V hV.ri hU hx h0 h1 (by omega) (by omega)).mono fun e V' ⟨q1, q2, q3⟩ => ⟨q1, hV.go q2 q3, q3⟩))
  clear hVA hVB hVC bB bC kB kC hst0 hFA hRA q3 f3 kA bA L1 HC3
  refine range_fr rfl (by decide) (gf := 44) (lb := #[.pointer (some ⟨W.heap.size + 1, 0, none⟩)]) rfl trivial (enters_of Tryd.func44 (by kernel_rfl) rfl)
    (left_seq 8 (W.heap.size + 1) B w line L a0 c0 (fun s x => s.next.col line x) (fun s V => CoM w W B W.heap.size line (.slice a0 L.length c0) s V ∧ CoK L line s0 T s) (fun s x V => CoM w W B W.heap.size line (.slice a0 L.length c0) s.next V ∧ (L[s.k]? = some x ∧ CoK L line s0 T s)) (by omega) hS
      (fun s x => by rw [col_k]; omega)
      (fun s V h => ⟨h.1.ri, h.2.kl, h.1.b2⟩)
      (fun s A A' h hb => ⟨h.1.keep hb, h.2⟩)
      (fun s A x h hx => ⟨h.1.go h.1.ri.next (h.1.ri.frp 2 _), hx, h.2⟩)
      (fun s x A A' h hb => ⟨h.1.keep hb, h.2⟩)
      (fun s x V h => ⟨h.1.ri, h.1.b2⟩) { s0 with cols := [108] })
    (fun _ _ => trivial) (fun _ _ _ _ _ _ _ => trivial) (fun _ => rfl)
    (fun c V => c = .ret ∧ ∃ s, CoE L line s0 T s ∧ CoM w W B W.heap.size line (.slice a0 L.length c0) s V)
    (fun s => (CoM.fr0 (by omega) (by omega)).and (Fr0.pure _ _))
    (fun s x => (CoM.fr0 (by omega) (by omega)).and (Fr0.pure _ _))
    (fun c => (Fr0.pure _ _).and (Fr0.ex fun s => (Fr0.pure _ _).and (CoM.fr0 (by omega) (by omega))))
    (Fr0.ex fun s => ((CoM.fr0 (by omega) (by omega)).and (Fr0.pure _ _)).and (Fr0.pure _ _))
    ⟨hM0, hK0⟩
    (fun x => { tmps := #[.pointer (some ⟨B, 0, none⟩), .pointer (some ⟨W.heap.size, 0, none⟩), .string ⟨x.toArray⟩, .pointer (some ⟨B, 0, none⟩), .pointer (some ⟨B, 0, none⟩), .pointer (some ⟨B, 3, none⟩), .pointer (some ⟨B, 3, none⟩), .pointer (some ⟨B, 0, none⟩), .func (.func 44) #[] #[.pointer (some ⟨W.heap.size + 1, 0, none⟩)], .string ⟨x.toArray⟩, undef, undef, undef, undef, undef, undef, undef, undef, undef, undef, undef], defers := [] }) ?assign ?body ?done ?stop
  case assign =>
    intro l x V K hK
    simp only [encL]
    gi_wp2
    exact hK
  case body =>
    rintro l s x V ⟨hM, hx, hK⟩
    have hst := hK.step hx
    have hxl := hpos V s x hx
    have hkl := (List.getElem?_eq_some_iff.1 hx).1
    have hdl := hK.dl
    have q1 : V.cell? ⟨W.heap.size, 0, none⟩ = some (.pointer (some ⟨B, 0, none⟩)) := hM.b1.cell 0
    have HC1 : Hid (∀ m, CallsIn (Fence.wide.inRound l) m Tryd.prog 43 #[.pointer (some ⟨B, 0, none⟩), .string ⟨x.toArray⟩] V fun e V' => e = .returned (.tuple #[]) ∧ CoM w W B W.heap.size line (.slice a0 L.length c0) (s.next.col line x) V' ∧ FrR V V') := Lib.hid fun m => HCOL.out s.next x V l m hM (by show s.k + 1 ≤ _; omega) (by show s.d.length ≤ 1 + 2 * (s.k + 1); omega) hxl
    obtain ⟨b46, hb⟩ : ∃ b46, endsB x 46 = b46 := ⟨_, rfl⟩
    have HE : Hid (∀ V' m, CallsIn (Fence.wide.inRound l) m Tryd.prog 40 #[.string ⟨x.toArray⟩, .string ⟨#[46]⟩] V' fun e w' => e = .returned (.bool b46) ∧ V' = w') := Lib.hid fun V' m => by
      have h := hassuf_any x 46 V' (by omega)
      rw [hb] at h
      exact CallsIn.inRound l (callsIn_wide.2 h)
    rw [hb] at hst
    have HST := Lib.hid hst
    clear hM hK hst hx HCOL hM0 hK0 hb hRI hS hU hpos hL hT
    cases b46
    all_goals
      gi_wp2_with (first
        | (refine ⟨trivial, ?_⟩; gi_at_call 43; refine (HC1.out _).mono ?_; rintro e V1 ⟨rfl, m1, f1⟩; have M1 := Lib.hid m1; have F1 := Lib.hid f1; clear m1 f1)
        | (refine ⟨trivial, ?_⟩; gi_at_call 40; refine (HE.out _ _).mono ?_; rintro e V2 ⟨rfl, rfl⟩))
      have HKO : Hid (KeepsOthers V V1) := Lib.hid F1.out.ko
      first
        | exact ⟨HKO.out.from _, rfl, _, HST.out.2 (by simp), M1.out⟩
        | exact ⟨HKO.out.from _, trivial, M1.out, HST.out.1 (by simp)⟩
  case done =>
    rintro D V hD ⟨s, ⟨hM, hK⟩, hk⟩ hdef
    have q1 : V.cell? ⟨W.heap.size, 0, none⟩ = some (.pointer (some ⟨B, 0, none⟩)) := hM.b1.cell 0
    obtain ⟨vr, vd, hbk, -, -⟩ := hM.ri.val
    have q2 : V.cell? ⟨B, 0, none⟩ = some (.int .i64 line) := hbk.cell 0
    have hdl := hK.dl
    have T1 := Lib.hid (tell9_any V.drew (hM.ri.keep (Below.refl V.heap.size V).drew) 7 line (by omega))
    have HF := Lib.hid (hM.fr.trans (FrR.below (Below.refl V.heap.size V).drew))
    have HE := Lib.hid (hK.fin hk)
    have HD := Lib.hid hdef
    clear hbk hM hK hdef HCOL hM0 hK0 hRI hS hU hpos hL hT
    gi_wp2_with fail
    refine wpIn_wide.2 ?_
    go_still_tail 5, (by kernel_rfl)
    change wpList _ _ _ _ _ V.drew
    go_wp2_with (go_at_call 41; refine T1.out.mono ?_; rintro e V1 ⟨rfl, r1, f1⟩; have R1 := Lib.hid r1; have F1 := Lib.hid f1; clear r1 f1)
    have hd2 : V1.heap[D]? = some (.deferred (some [])) := F1.out.ko.same _ _ HD.out rfl
    refine ⟨by simp, .inl ⟨_, _, rfl, run_takeDeferred (w := V1) hd2, ?_⟩⟩
    refine ⟨_, results_none rfl _ _ _, rfl, _, ?_, ?_, HE.out⟩
    · exact (RI.fr0 (Nat.le_refl _)).put _ R1.out (by omega) hd2 rfl
    · exact (FrR.fr0 (Nat.le_refl _)).put _ (HF.out.trans F1.out) (by omega) hd2 rfl
  case stop =>
    rintro D c V hD ⟨rfl, s, hE, hM⟩ hdef
    have HM := Lib.hid hM
    have HE := Lib.hid hE
    have HD := Lib.hid hdef
    clear hM hE hdef HCOL hM0 hK0 hRI hS hU hpos hL hT
    gi_wp2_with fail
    refine ⟨by simp, .inl ⟨_, _, rfl, run_takeDeferred (w := V) HD.out, ?_⟩⟩
    refine ⟨_, results_none rfl _ _ _, rfl, _, ?_, ?_, HE.out⟩
    · exact (RI.fr0 (Nat.le_refl _)).put _ HM.out.ri (by omega) HD.out rfl
    · exact (FrR.fr0 (Nat.le_refl _)).put _ HM.out.fr (by omega) HD.out rfl
theorem rcolumns_any9 {w : World} {B : Nat} {line : Int} {a0 : Option Addr} {c0 : Nat} (L : List Txt) (s0 : RS) (W : World) (hRI : RI w B line (.slice a0 L.length c0) s0 W) (hS : Ss w (.slice a0 L.length c0) L) (hU : U8 w) (hL : ∀ x ∈ L, x.length ≤ 2000) (hl : L.length ≤ 40000) (h0 : 0 ≤ line) (h1 : line ≤ 100000)
    (hk0 : s0.k ≤ L.length) (hd0 : s0.d.length ≤ 1 + 2 * s0.k) :
    Calls Tryd.prog 27 #[.pointer (some ⟨B, 0, none⟩)] W fun e W' => e = .returned (.tuple #[]) ∧ ∃ s, RI w B line (.slice a0 L.length c0) s W' ∧ FrR W W' ∧ CoE L line s0 (colsP (L.drop s0.k) (line + s0.k) [] s0.d) s := callsIn_wide.1 (rcolumns_in9 L s0 W hRI hS hU hL hl h0 h1 hk0 hd0)
end Go.Proofs.YtaeplneiicobgaaDoor
