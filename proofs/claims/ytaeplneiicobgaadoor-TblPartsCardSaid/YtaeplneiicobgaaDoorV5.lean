/- The program's own for tables: a look. -/
import Derived.Test.YtaeplneiicobgaaDoorV4
import Derived.Test.YtaeplneiicobgaaDoorJF
import Derived.Sort.QuietIn
set_option linter.unusedVariables false
set_option linter.unusedSimpArgs false
namespace Go.Proofs.YtaeplneiicobgaaDoor
open Go.RowKit
attribute [local go_sem] Oper.semAt_some
attribute [local go_sem ↓ high] binop_eqlS binop_neqS
/-- What a look's reading holds in memory. -/
structure LkJ (w : World) (b : Txt) (ok : Bool) (bx al : Bool) (W : World) : Prop where
  bel : Below w.heap.size w W
  ok : Blk W w.heap.size 4 [.bool ok]
  bx : Blk W (w.heap.size + 1) 4 [.bool bx]
  al : Blk W (w.heap.size + 2) 4 [.bool al]
  st : Blk W (w.heap.size + 3) 9 [.string ⟨b.toArray⟩]
  fn : Blk W (w.heap.size + 4) 75 [.func (.func 35) #[] #[]]
theorem LkJ.keep {w : World} {b : Txt} {ok bx al : Bool} {A A' : World} (h : LkJ w b ok bx al A) (hb : Below A.heap.size A A') : LkJ w b ok bx al A' :=
  ⟨h.bel.trans (hb.mono h.bel.size), h.ok.below hb, h.bx.below hb, h.al.below hb, h.st.below hb, h.fn.below hb⟩
theorem Blk.fr0 {g e B : Nat} {L : List Value} : Fr0 B (fun W => Blk W g e L) := fun A A' row h hg hr => by
  refine (hg.block g (Array.getElem?_eq_some_iff.1 h).1 (fun q => ?_)).trans h
  obtain ⟨-, o, ho, hc⟩ := hr g q.symm
  have k : A.heap[g]? = _ := h
  rw [k] at ho
  cases ho
  cases hc
theorem LkJ.fr0 {w : World} {b : Txt} {ok bx al : Bool} {B : Nat} (hB : w.heap.size ≤ B) : Fr0 B (LkJ w b ok bx al) := fun A A' row h hg hr =>
  ⟨h.bel.grown hg h.bel.size (fun k e => Nat.le_trans hB (hr k e).1), Blk.fr0 A A' row h.ok hg hr, Blk.fr0 A A' row h.bx hg hr, Blk.fr0 A A' row h.al hg hr, Blk.fr0 A A' row h.st hg hr, Blk.fr0 A A' row h.fn hg hr⟩
/-- One of the three is stored. -/
theorem LkJ.set {w : World} {b : Txt} {ok bx al : Bool} {A : World} (h : LkJ w b ok bx al A) :
    (∀ v, LkJ w b v bx al (A.setCell ⟨w.heap.size, 0, none⟩ (.bool v))) ∧ (∀ v, LkJ w b ok v al (A.setCell ⟨w.heap.size + 1, 0, none⟩ (.bool v))) ∧ (∀ v, LkJ w b ok bx v (A.setCell ⟨w.heap.size + 2, 0, none⟩ (.bool v))) := by
  refine ⟨fun v => ⟨h.bel.setCell (p := ⟨w.heap.size, 0, none⟩) (Nat.le_refl _) _, h.ok.set 0 _, h.bx.other (by omega) _ _, h.al.other (by omega) _ _, h.st.other (by omega) _ _, h.fn.other (by omega) _ _⟩,
    fun v => ⟨h.bel.setCell (p := ⟨w.heap.size + 1, 0, none⟩) (by simp) _, h.ok.other (by omega) _ _, h.bx.set 0 _, h.al.other (by omega) _ _, h.st.other (by omega) _ _, h.fn.other (by omega) _ _⟩,
    fun v => ⟨h.bel.setCell (p := ⟨w.heap.size + 2, 0, none⟩) (by simp) _, h.ok.other (by omega) _ _, h.bx.other (by omega) _ _, h.al.set 0 _, h.st.other (by omega) _ _, h.fn.other (by omega) _ _⟩⟩
theorem take_all9 {α : Type} (l : List α) (x : α) (r : List α) (h : l ++ [x] <+: r) : r[l.length]? = some x ∧ r.take l.length = l := by
  obtain ⟨t, rfl⟩ := h
  simp
theorem noEnd_len (b : Txt) (c : UInt8) : (noEnd b c).length ≤ b.length := by
  unfold noEnd
  split
  · rw [List.length_dropLast]; omega
  · exact Nat.le_refl _
def lkR (ok : Bool) (o : Option (Bool × Bool)) : Bool × Bool × Bool := match o with
  | some (x, y) => (ok && x, ok && y, ok)
  | none => (false, false, false)
theorem lookB_eq (b : Txt) : lookB b = lkR (endsB b 59) (lookW (wordsB (noEnd b 59))) := by
  unfold lookB noEnd lkR
  cases endsB b 59
  · rw [if_neg (by simp), if_neg (by simp)]
    cases lookW (wordsB b) <;> rfl
  · rw [if_pos rfl, if_pos rfl]
    cases lookW (wordsB b.dropLast) <;> rfl
set_option maxRecDepth 100000 in
set_option maxHeartbeats 4000000 in
theorem look_in (b : Txt) (w : World) (hU : U8 w) (hb : b.length ≤ 100000) :
    CallsIn Fence.wide 9 Tryd.prog 7 #[.string ⟨b.toArray⟩] w fun e w' => e = .returned (.tuple #[.bool (lookB b).1, .bool (lookB b).2.1, .bool (lookB b).2.2]) ∧ Below w.heap.size w w' := by
  obtain ⟨a, ha⟩ : ∃ a, noEnd b 59 = a := ⟨_, rfl⟩
  obtain ⟨ok0, hok⟩ : ∃ ok0, endsB b 59 = ok0 := ⟨_, rfl⟩
  have hal : a.length ≤ 100000 := by
    have := noEnd_len b 59
    rw [ha] at this
    omega
  have HLB : Hid (lookB b = lkR ok0 (lookW (wordsB a))) := Lib.hid (by rw [← hok, ← ha]; exact lookB_eq b)
  have C1 : Hid (∀ W, CallsIn Fence.wide 8 Tryd.prog 18 #[.string ⟨b.toArray⟩, .string ⟨#[59]⟩] W fun e w' => e = .returned (.tuple #[.string ⟨a.toArray⟩, .bool ok0]) ∧ W = w') := Lib.hid fun W => by
    have h := cutsuf_any b 59 W hb
    rw [ha, hok] at h
    exact callsIn_wide.2 h
  have W1 : Hid (∀ W, CallsIn Fence.wide 8 Tryd.prog 19 #[.string ⟨a.toArray⟩] W fun e w' => e = .returned (.func (.func 52) #[] #[.pointer (some ⟨W.heap.size, 0, none⟩), .pointer (some ⟨W.heap.size + 1, 0, none⟩)]) ∧
    ((W.alloc (.cells #[.string ⟨a.toArray⟩] 9)).alloc (.cells #[.func (.func 35) #[] #[]] 75)) = w') := Lib.hid fun W => callsIn_wide.2 (words_any a W)
  have HU := Lib.hid hU
  clear hok ha hU
  refine callsIn_of_wp_marks Tryd.func7 rfl trivial ?_ rfl
  simp only [Tryd.ntmps7, List.size_toArray, List.length_cons, List.length_nil, Nat.reduceAdd, Nat.reduceSub, Array.replicate_succ, Array.replicate_zero, List.push_toArray, List.append_toArray, List.nil_append, List.cons_append]
  gi_wp2_with fail
  refine wpIn_scope_straight ?_
  gi_wp2_with (refine ⟨trivial, ?_⟩; gi_at_call 18; refine (C1.out _).mono ?_; rintro e w' ⟨rfl, rfl⟩)
  refine wpIn_label ?_
  gi_wp2_with (refine ⟨trivial, ?_⟩; gi_at_call 19; refine (W1.out _).mono ?_; rintro e w' ⟨rfl, rfl⟩)
  obtain ⟨W0, hW0⟩ : ∃ W0, (((((w.alloc (.cells #[.bool ok0] 4)).alloc (.cells #[.bool false] 4)).alloc (.cells #[.bool false] 4)).alloc (.cells #[.string ⟨a.toArray⟩] 9)).alloc (.cells #[.func (.func 35) #[] #[]] 75)) = W0 := ⟨_, rfl⟩
  have hsz : W0.heap.size = w.heap.size + 5 := by rw [← hW0]; simp
  have hJ0 : LkJ w a ok0 false false W0 := by
    have n0 := heap_alloc_new w (.cells #[.bool ok0] 4)
    have n1 := heap_alloc_new (w.alloc (.cells #[.bool ok0] 4)) (.cells #[.bool false] 4)
    have n2 := heap_alloc_new ((w.alloc (.cells #[.bool ok0] 4)).alloc (.cells #[.bool false] 4)) (.cells #[.bool false] 4)
    have n3 := heap_alloc_new (((w.alloc (.cells #[.bool ok0] 4)).alloc (.cells #[.bool false] 4)).alloc (.cells #[.bool false] 4)) (.cells #[.string ⟨a.toArray⟩] 9)
    have n4 := heap_alloc_new ((((w.alloc (.cells #[.bool ok0] 4)).alloc (.cells #[.bool false] 4)).alloc (.cells #[.bool false] 4)).alloc (.cells #[.string ⟨a.toArray⟩] 9)) (.cells #[.func (.func 35) #[] #[]] 75)
    simp only [World.size_alloc] at n1 n2 n3 n4
    refine ⟨?_, ?_, ?_, ?_, ?_, ?_⟩
    · rw [← hW0]
      exact (((((Below.refl _ w).alloc (Nat.le_refl _) _).alloc (by simp) _).alloc (by simp <;> omega) _).alloc (by simp <;> omega) _).alloc (by simp <;> omega) _
    · rw [← hW0]
      exact (heap_alloc_old _ _ (by simp <;> omega)).trans ((heap_alloc_old _ _ (by simp <;> omega)).trans ((heap_alloc_old _ _ (by simp <;> omega)).trans ((heap_alloc_old _ _ (by simp <;> omega)).trans n0)))
    · rw [← hW0]
      exact (heap_alloc_old _ _ (by simp <;> omega)).trans ((heap_alloc_old _ _ (by simp <;> omega)).trans ((heap_alloc_old _ _ (by simp <;> omega)).trans n1))
    · rw [← hW0]
      exact (heap_alloc_old _ _ (by simp <;> omega)).trans ((heap_alloc_old _ _ (by simp <;> omega)).trans n2)
    · rw [← hW0]
      exact (heap_alloc_old _ _ (by simp <;> omega)).trans n3
    · rw [← hW0]
      exact n4
  rw [hW0]
  have HSZ := Lib.hid hsz
  clear hW0 C1 W1
  refine range_fr rfl (by decide) (gf := 52) (lb := #[.pointer (some ⟨w.heap.size + 3, 0, none⟩), .pointer (some ⟨w.heap.size + 3 + 1, 0, none⟩)]) rfl trivial (enters_of Tryd.func52 (by kernel_rfl) rfl)
    (fields_seq 8 (w.heap.size + 3) a (fun p W => ∃ bx al, lookW p = some (bx, al) ∧ LkJ w a ok0 bx al W) hal (fun p A A' ⟨x, y, h1, h2⟩ hb => ⟨x, y, h1, h2.keep hb⟩) (fun p W ⟨x, y, h1, h2⟩ => ⟨h2.st, h2.fn, HU.out.below h2.bel⟩))
    (fun _ _ => trivial) (fun _ _ _ _ _ _ _ => trivial) (fun _ => rfl)
    (fun c W => c = .exit 0 ∧ lookW (wordsB a) = none ∧ ∃ bx al, LkJ w a false bx al W)
    (fun p => Fr0.ex fun bx => Fr0.ex fun al => (Fr0.pure _ _).and (LkJ.fr0 (by omega)))
    (fun p x => (Fr0.ex fun bx => Fr0.ex fun al => (Fr0.pure _ _).and (LkJ.fr0 (by omega))).and (Fr0.pure _ _))
    (fun c => (Fr0.pure _ _).and ((Fr0.pure _ _).and (Fr0.ex fun bx => Fr0.ex fun al => LkJ.fr0 (by omega))))
    (Fr0.ex fun bx => Fr0.ex fun al => (Fr0.pure _ _).and (LkJ.fr0 (by omega)))
    ⟨false, false, rfl, hJ0⟩
    (fun x => { tmps := #[.string ⟨b.toArray⟩, undef, .bool false, .bool false, .bool false, .string ⟨a.toArray⟩, .pointer (some ⟨w.heap.size, 0, none⟩), .pointer (some ⟨w.heap.size + 1, 0, none⟩), .pointer (some ⟨w.heap.size + 1 + 1, 0, none⟩), .string ⟨x.toArray⟩, .tuple #[.string ⟨a.toArray⟩, .bool ok0], .string ⟨b.toArray⟩, .tuple #[.string ⟨a.toArray⟩, .bool ok0], .string ⟨a.toArray⟩, .bool ok0, .string ⟨a.toArray⟩, .func (.func 52) #[] #[.pointer (some ⟨w.heap.size + 1 + 1 + 1, 0, none⟩), .pointer (some ⟨w.heap.size + 1 + 1 + 1 + 1, 0, none⟩)], .string ⟨x.toArray⟩, undef, undef, undef, undef, undef, undef, undef, undef, undef, undef, undef, undef, undef, undef], defers := [] }) ?assign ?body ?done ?stop
  case assign =>
    intro l x W K hK
    simp only [encL]
    gi_wp2
    exact hK
  case body =>
    rintro l pre x W ⟨⟨bx, al, hL, hJ⟩, hpre⟩
    obtain ⟨hx1, hx2⟩ := take_all9 _ _ _ hpre
    have hAt : LookAt (wordsB a) pre.length bx al := by unfold LookAt; rw [hx2]; exact hL
    have hnx : (wordsB a).take (pre.length + 1) = pre ++ [x] := by rw [take_one9 hx1, hx2]
    have HJ := Lib.hid hJ
    clear hJ0 hJ hL hsz
    by_cases h1 : x = allW
    · subst h1
      have HN : Hid (lookW (pre ++ [allW]) = some (true, true)) := Lib.hid (by rw [← hnx]; exact hAt.all hx1 rfl)
      have E1 : ∀ W, (eqlS (.string ⟨allW.toArray⟩) (.string ⟨#[97, 108, 108, 98, 111, 120]⟩)).run Tryd.prog W = .ok (.bool true) W := eqlS_run allW allW
      have q1 : W.cell? ⟨w.heap.size + 1, 0, none⟩ = some (.bool bx) := HJ.out.bx.cell 0
      have q2 : W.cell? ⟨w.heap.size + 1 + 1, 0, none⟩ = some (.bool al) := HJ.out.al.cell 0
      have f1 : W.frozen? ⟨w.heap.size + 1, 0, none⟩ = false := HJ.out.bx.frozen (by simp)
      have f2 : W.frozen? ⟨w.heap.size + 1 + 1, 0, none⟩ = false := HJ.out.al.frozen (by simp)
      obtain ⟨z, hz⟩ : ∃ z, allW = z := ⟨_, rfl⟩
      rw [hz] at E1 HN ⊢
      clear hx1 hx2 hAt hnx hpre hz
      gi_wp2_with fail
      exact ⟨((KeepsOthers.setCell _ _ _).trans (KeepsOthers.setCell _ _ _)).from _, trivial, true, true, HN.out, ((HJ.out.set.2.2 true).set.2.1 true)⟩
    · by_cases h2 : x = boxW
      · subst h2
        have HN : Hid (lookW (pre ++ [boxW]) = some (true, al)) := Lib.hid (by rw [← hnx]; exact hAt.box hx1 rfl)
        have E1 : ∀ W, (eqlS (.string ⟨boxW.toArray⟩) (.string ⟨#[97, 108, 108, 98, 111, 120]⟩)).run Tryd.prog W = .ok (.bool false) W := eqlS_run boxW allW
        have E2 : ∀ W, (eqlS (.string ⟨boxW.toArray⟩) (.string ⟨#[98, 111, 120]⟩)).run Tryd.prog W = .ok (.bool true) W := eqlS_run boxW boxW
        have q1 : W.cell? ⟨w.heap.size + 1, 0, none⟩ = some (.bool bx) := HJ.out.bx.cell 0
        have f1 : W.frozen? ⟨w.heap.size + 1, 0, none⟩ = false := HJ.out.bx.frozen (by simp)
        obtain ⟨z, hz⟩ : ∃ z, boxW = z := ⟨_, rfl⟩
        rw [hz] at E1 E2 HN ⊢
        clear hx1 hx2 hAt hnx hpre hz h1
        gi_wp2_with fail
        exact ⟨(KeepsOthers.setCell _ _ _).from _, trivial, true, al, HN.out, HJ.out.set.2.1 true⟩
      · have HN : Hid (lookW (wordsB a) = none) := Lib.hid (hAt.bad hx1 h2 h1)
        have E1 : ∀ W, (eqlS (.string ⟨x.toArray⟩) (.string ⟨#[97, 108, 108, 98, 111, 120]⟩)).run Tryd.prog W = .ok (.bool false) W := fun W => by
          have h := eqlS_run x allW W
          rw [decide_eq_false h1] at h
          exact h
        have E2 : ∀ W, (eqlS (.string ⟨x.toArray⟩) (.string ⟨#[98, 111, 120]⟩)).run Tryd.prog W = .ok (.bool false) W := fun W => by
          have h := eqlS_run x boxW W
          rw [decide_eq_false h2] at h
          exact h
        have q1 : W.cell? ⟨w.heap.size, 0, none⟩ = some (.bool ok0) := HJ.out.ok.cell 0
        have f1 : W.frozen? ⟨w.heap.size, 0, none⟩ = false := HJ.out.ok.frozen (by simp)
        clear hx1 hx2 hAt hnx hpre h1 h2
        gi_wp2_with fail
        exact ⟨(KeepsOthers.setCell _ _ _).from _, rfl, HN.out, bx, al, HJ.out.set.1 false⟩
  case done =>
    rintro D W hD ⟨bx, al, hL, hJ⟩ hdef
    have HR : Hid (lookB b = (ok0 && bx, ok0 && al, ok0)) := Lib.hid (by rw [HLB.out, hL]; rfl)
    have q0 : W.cell? ⟨w.heap.size, 0, none⟩ = some (.bool ok0) := hJ.ok.cell 0
    have q1 : W.cell? ⟨w.heap.size + 1, 0, none⟩ = some (.bool bx) := hJ.bx.cell 0
    have q2 : W.cell? ⟨w.heap.size + 1 + 1, 0, none⟩ = some (.bool al) := hJ.al.cell 0
    have HD := Lib.hid hdef
    have HB : Hid (∀ m, Below w.heap.size w ((W.drewN m).putObj D (.deferred none))) := Lib.hid (fun m => (below_drewN hJ.bel m).trans ⟨rfl, rfl, rfl, by simp, fun k hk => World.putObj_heap_other (by omega)⟩)
    clear hJ0 hJ hL hsz hdef HU
    cases ok0
    all_goals
      gi_wp2_with fail
      gi_quiet (fail)
      gi_wp2_with fail
      rw [Exit.noGoto_ret]
      refine ⟨by simp, .inl ⟨_, _, rfl, run_takeDeferred (w := W.drewN nq) HD.out, ?_⟩⟩
      refine ⟨_, results_tmp3 (by rfl) _ _ _, ?_, HB.out _⟩
      rw [HR.out]
      rfl
  case stop =>
    rintro D c W hD ⟨rfl, hL, bx, al, hJ⟩ hdef
    have HR : Hid (lookB b = (false, false, false)) := Lib.hid (by rw [HLB.out, hL]; rfl)
    have q0 : W.cell? ⟨w.heap.size, 0, none⟩ = some (.bool false) := hJ.ok.cell 0
    have HD := Lib.hid hdef
    have HB : Hid (∀ m, Below w.heap.size w ((W.drewN m).putObj D (.deferred none))) := Lib.hid (fun m => (below_drewN hJ.bel m).trans ⟨rfl, rfl, rfl, by simp, fun k hk => World.putObj_heap_other (by omega)⟩)
    have q1 : W.cell? ⟨w.heap.size + 1, 0, none⟩ = some (.bool bx) := hJ.bx.cell 0
    have q2 : W.cell? ⟨w.heap.size + 1 + 1, 0, none⟩ = some (.bool al) := hJ.al.cell 0
    clear hJ0 hJ hL hsz hdef HU
    gi_wp2_with fail
    gi_quiet (fail)
    gi_wp2_with fail
    rw [Exit.noGoto_ret]
    refine ⟨by simp, .inl ⟨_, _, rfl, run_takeDeferred (w := W.drewN nq) HD.out, ?_⟩⟩
    refine ⟨_, results_tmp3 (by rfl) _ _ _, ?_, HB.out _⟩
    rw [HR.out]
    rfl
theorem look_any (b : Txt) (w : World) (hU : U8 w) (hb : b.length ≤ 100000) :
    Calls Tryd.prog 7 #[.string ⟨b.toArray⟩] w fun e w' => e = .returned (.tuple #[.bool (lookB b).1, .bool (lookB b).2.1, .bool (lookB b).2.2]) ∧ Below w.heap.size w w' := callsIn_wide.1 (look_in b w hU hb)
end Go.Proofs.YtaeplneiicobgaaDoor
