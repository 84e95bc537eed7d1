/- The program's own for tables: columns. -/
import Derived.Test.YtaeplneiicobgaaDoorV5
import Derived.Deep.RegionWith
set_option linter.unusedVariables false
set_option linter.unusedSimpArgs false
namespace Go.Proofs.YtaeplneiicobgaaDoor
open Go.RowKit
attribute [local go_sem] Oper.semAt_some
attribute [local go_sem ↓ high] binop_eqlS binop_neqS
/-- A builder in a block of its own, and what it holds. -/
abbrev Bd9 (B b : Nat) (tx : List UInt8) (W : World) : Prop := Lib.IsBuilderF 59 5 B b (Lib.byteCells tx) W
theorem Bd9.new (w : World) : Bd9 w.heap.size w.heap.size [] (w.alloc (.cells #[.pointer none, .slice none 0 0] 59)) :=
  .inl ⟨Nat.le_refl _, .slice none 0 0, heap_alloc_new w _, ⟨rfl, .inl ⟨rfl, rfl⟩⟩, by simp [Value.ownBlock]⟩
/-- What turns no byte row, and not the builder's block, leaves the builder. -/
theorem Bd9.grown {B b : Nat} {tx : List UInt8} {W W' : World} {row : Option Nat} (h : Bd9 B b tx W) (hg : W.grownBy W' row) (hr : ∀ r, row = some r → r ≠ b ∧ ∃ o : Obj, W.heap[r]? = some o ∧ ∀ c fz, o ≠ Obj.cells c 5 fz) : Bd9 B b tx W' := by
  have key : ∀ p, Lib.BuilderAtF 59 5 B b p (Lib.byteCells tx) W → Lib.BuilderAtF 59 5 B b p (Lib.byteCells tx) W' := fun p h => by
    have hlt := h.lt
    obtain ⟨hB, v, h0, hown, hne⟩ := h
    refine ⟨hB, v, (hg.block b hlt (fun e => (hr b e.symm).1 rfl)).trans h0, hown.kept hg ?_, hne⟩
    rcases hown.2 with ⟨rfl, -⟩ | ⟨g, cap, cur, fz, rfl, -, hgg, -⟩
    · exact .inl rfl
    · refine .inr (fun e => ?_)
      obtain ⟨-, o, ho, hc⟩ := hr g e.symm
      rw [hgg] at ho
      cases ho
      exact hc _ _ rfl
  rcases h with h | h
  · exact .inl (key _ h)
  · exact .inr (key _ h)
theorem Bd9.keep {B b : Nat} {tx : List UInt8} {W W' : World} (h : Bd9 B b tx W) (hb : Below W.heap.size W W') : Bd9 B b tx W' :=
  h.grown (row := none) ⟨hb.os, hb.tape, hb.output, hb.size, fun k hk _ => hb.block k hk⟩ (fun r e => by cases e)
theorem grown_set9 (W : World) (g j : Nat) (v : Value) : W.grownBy (W.setCell ⟨g, j, none⟩ v) (some g) :=
  have h := (Below.refl 0 W).setCell (p := ⟨g, j, none⟩) (Nat.zero_le _) v
  ⟨h.os, h.tape, h.output, h.size, fun k _ hk => Below.heap_setCell _ _ _ _ (fun e => hk (by rw [e]))⟩
theorem Bd9.set {B b g : Nat} {tx : List UInt8} {W : World} {e : TypeId} {L : List Value} (h : Bd9 B b tx W) (hb : Blk W g e L) (he : e ≠ 5) (hne : g ≠ b) (j : Nat) (v : Value) : Bd9 B b tx (W.setCell ⟨g, j, none⟩ v) :=
  h.grown (grown_set9 W g j v) (fun r q => by
    cases q
    exact ⟨hne, _, hb, fun c fz q => by injection q with _ q; exact he q⟩)
theorem Bd9.fr0 {B b B' : Nat} {tx : List UInt8} (hB : b < B') : Fr0 B' (Bd9 B b tx) := fun A A' row h hg hr => h.grown hg (fun r q => by
  obtain ⟨h1, o, h2, h3⟩ := hr r q
  exact ⟨by omega, o, h2, fun c fz q => by subst q; cases h3⟩)
theorem ok_ko {e : TypeId} {b B : Nat} {W W' : World} (h : Lib.OthersKept e (some b) W W') (hb : Below B W W') {T : TypeId} {L : List Value} (hk : Blk W b T L) : KeepsOthers W W' :=
  ⟨hb.size, fun k o hk' ho => h k o hk' (fun q => by
    cases q
    have : W.heap[b]? = _ := hk
    rw [this] at hk'
    cases hk'
    cases ho) (fun c fz q => by subst q; cases ho)⟩
theorem ok_blk {e : TypeId} {b : Nat} {W W' : World} (h : Lib.OthersKept e (some b) W W') {g T : Nat} {L : List Value} (hk : Blk W g T L) (hne : g ≠ b) (ht : T ≠ e) : Blk W' g T L :=
  h g _ hk (fun q => by cases q; exact hne rfl) (fun c fz q => by injection q with _ q; exact ht q)
theorem Bd9.blk {B b : Nat} {tx : List UInt8} {W : World} (h : Bd9 B b tx W) : ∃ L, Blk W b 59 L := by
  rcases h with ⟨-, v, h, -⟩ | ⟨-, v, h, -⟩
  · exact ⟨[_, v], h⟩
  · exact ⟨[_, v], h⟩
/-- What the reading of columns holds in memory. -/
structure CoJ (w : World) (a cs : Txt) (ok : Bool) (W : World) : Prop where
  bel : Below w.heap.size w W
  bd : Bd9 w.heap.size w.heap.size cs W
  ok : Blk W (w.heap.size + 1) 4 [.bool ok]
  st : Blk W (w.heap.size + 2) 9 [.string ⟨a.toArray⟩]
  fn : Blk W (w.heap.size + 3) 75 [.func (.func 35) #[] #[]]
section
variable {w : World} {a cs : Txt} {ok : Bool} {A A' : World}
theorem CoJ.keep (h : CoJ w a cs ok A) (hb : Below A.heap.size A A') : CoJ w a cs ok A' :=
  ⟨h.bel.trans (hb.mono h.bel.size), h.bd.keep hb, h.ok.below hb, h.st.below hb, h.fn.below hb⟩
theorem CoJ.fr0 {B : Nat} (hB : w.heap.size < B) : Fr0 B (CoJ w a cs ok) := fun A A' row h hg hr =>
  ⟨h.bel.grown hg h.bel.size (fun k e => by have := (hr k e).1; omega), Bd9.fr0 hB A A' row h.bd hg hr, Blk.fr0 A A' row h.ok hg hr, Blk.fr0 A A' row h.st hg hr, Blk.fr0 A A' row h.fn hg hr⟩
theorem CoJ.no (h : CoJ w a cs ok A) : CoJ w a cs false (A.setCell ⟨w.heap.size + 1, 0, none⟩ (.bool false)) :=
  ⟨h.bel.setCell (p := ⟨w.heap.size + 1, 0, none⟩) (by simp) _, h.bd.set h.ok (by decide) (by omega) _ _, h.ok.set 0 _, h.st.other (by omega) _ _, h.fn.other (by omega) _ _⟩
theorem CoJ.more (h : CoJ w a cs ok A) {cs' : Txt} (hd : Bd9 w.heap.size w.heap.size cs' A') (hb : Below w.heap.size A A') (hk : Lib.OthersKept 5 (some w.heap.size) A A') : CoJ w a cs' ok A' ∧ KeepsOthers A A' := by
  obtain ⟨L, hL⟩ := h.bd.blk
  exact ⟨⟨h.bel.trans hb, hd, ok_blk hk h.ok (by omega) (by decide), ok_blk hk h.st (by omega) (by decide), ok_blk hk h.fn (by omega) (by decide)⟩, ok_ko hk hb hL⟩
end
set_option maxRecDepth 100000 in
set_option maxHeartbeats 4000000 in
theorem columns_in (b : Txt) (w : World) (hU : U8 w) (hb : b.length ≤ 100000) :
    CallsIn Fence.wide 9 Tryd.prog 9 #[.string ⟨b.toArray⟩] w fun e w' => e = .returned (.tuple #[.string ⟨(colsB b).1.toArray⟩, .bool (colsB b).2]) ∧ Below w.heap.size w w' := by
  obtain ⟨a, ha⟩ : ∃ a, noEnd b 46 = a := ⟨_, rfl⟩
  have hal : a.length ≤ 100000 := by
    have := noEnd_len b 46
    rw [ha] at this
    omega
  have HCB : Hid (colsB b = colsW (wordsB a)) := Lib.hid (by rw [← ha]; exact colsB_eq b)
  have C1 : Hid (∀ W, CallsIn Fence.wide 8 Tryd.prog 22 #[.string ⟨b.toArray⟩, .string ⟨#[46]⟩] W fun e w' => e = .returned (.string ⟨a.toArray⟩) ∧ W = w') := Lib.hid fun W => by
    have h := trimsuf_any b 46 W hb
    rw [ha] at h
    exact callsIn_wide.2 h
  have W1 : Hid (∀ W, CallsIn Fence.wide 8 Tryd.prog 19 #[.string ⟨a.toArray⟩] W fun e w' => e = .returned (.func (.func 52) #[] #[.pointer (some ⟨W.heap.size, 0, none⟩), .pointer (some ⟨W.heap.size + 1, 0, none⟩)]) ∧
    ((W.alloc (.cells #[.string ⟨a.toArray⟩] 9)).alloc (.cells #[.func (.func 35) #[] #[]] 75)) = w') := Lib.hid fun W => callsIn_wide.2 (words_any a W)
  have HU := Lib.hid hU
  have HWN := Lib.hid (wordsB_num a)
  clear ha hU
  refine callsIn_of_wp_marks Tryd.func9 rfl trivial ?_ rfl
  simp only [Tryd.ntmps9, List.size_toArray, List.length_cons, List.length_nil, Nat.reduceAdd, Nat.reduceSub, Array.replicate_succ, Array.replicate_zero, List.push_toArray, List.append_toArray, List.nil_append, List.cons_append]
  gi_wp2_with (first
    | (refine ⟨trivial, ?_⟩; gi_at_call 22; refine (C1.out _).mono ?_; rintro e w' ⟨rfl, rfl⟩)
    | (refine ⟨trivial, ?_⟩; gi_at_call 19; refine (W1.out _).mono ?_; rintro e w' ⟨rfl, rfl⟩))
  obtain ⟨W0, hW0⟩ : ∃ W0, ((((w.alloc (.cells #[.pointer none, .slice none 0 0] 59)).alloc (.cells #[.bool true] 4)).alloc (.cells #[.string ⟨a.toArray⟩] 9)).alloc (.cells #[.func (.func 35) #[] #[]] 75)) = W0 := ⟨_, rfl⟩
  have hsz : W0.heap.size = w.heap.size + 4 := by rw [← hW0]; simp
  have hJ0 : CoJ w a [] true W0 := by
    obtain ⟨V1, hV1⟩ : ∃ V1, w.alloc (.cells #[.pointer none, .slice none 0 0] 59) = V1 := ⟨_, rfl⟩
    obtain ⟨V2, hV2⟩ : ∃ V2, V1.alloc (.cells #[.bool true] 4) = V2 := ⟨_, rfl⟩
    obtain ⟨V3, hV3⟩ : ∃ V3, V2.alloc (.cells #[.string ⟨a.toArray⟩] 9) = V3 := ⟨_, rfl⟩
    rw [hV1, hV2, hV3] at hW0
    have z1 : V1.heap.size = w.heap.size + 1 := by rw [← hV1]; simp
    have z2 : V2.heap.size = w.heap.size + 2 := by rw [← hV2]; simp [z1]
    have z3 : V3.heap.size = w.heap.size + 3 := by rw [← hV3]; simp [z2]
    have b1 : Below w.heap.size w V1 := by rw [← hV1]; exact below_lit w _
    have b2 : Below V1.heap.size V1 V2 := by rw [← hV2]; exact below_lit V1 _
    have b3 : Below V2.heap.size V2 V3 := by rw [← hV3]; exact below_lit V2 _
    have b4 : Below V3.heap.size V3 W0 := by rw [← hW0]; exact below_lit V3 _
    have d1 := Bd9.new w
    rw [hV1] at d1
    have n2 : Blk V2 (w.heap.size + 1) 4 [.bool true] := by rw [← hV2, ← z1]; exact heap_alloc_new V1 _
    have n3 : Blk V3 (w.heap.size + 2) 9 [.string ⟨a.toArray⟩] := by rw [← hV3, ← z2]; exact heap_alloc_new V2 _
    have n4 : Blk W0 (w.heap.size + 3) 75 [.func (.func 35) #[] #[]] := by rw [← hW0, ← z3]; exact heap_alloc_new V3 _
    exact ⟨b1.trans ((b2.mono b1.size).trans ((b3.mono (by omega)).trans (b4.mono (by omega)))), ((d1.keep b2).keep b3).keep b4, (n2.below b3).below b4, n3.below b4, n4⟩
  rw [hW0]
  have HSZ := Lib.hid hsz
  clear hW0 C1 W1
  refine range_fr rfl (by decide) (gf := 52) (lb := #[.pointer (some ⟨w.heap.size + 2, 0, none⟩), .pointer (some ⟨w.heap.size + 2 + 1, 0, none⟩)]) rfl trivial (enters_of Tryd.func52 (by kernel_rfl) rfl)
    (fields_seq 8 (w.heap.size + 2) a (fun p W => CoJ w a (colsW p).1 (colsW p).2 W) hal (fun p A A' h hb => h.keep hb) (fun p W h => ⟨h.st, h.fn, HU.out.below h.bel⟩))
    (fun _ _ => trivial) (fun _ _ _ _ _ _ _ => trivial) (fun _ => rfl)
    (fun c W => False)
    (fun p => CoJ.fr0 (by omega))
    (fun p x => (CoJ.fr0 (by omega)).and (Fr0.pure _ _))
    (fun c => Fr0.pure _ _)
    (CoJ.fr0 (by omega))
    hJ0
    (fun x => { tmps := #[.string ⟨b.toArray⟩, undef, .string ⟨#[]⟩, .bool false, .pointer (some ⟨w.heap.size, 0, none⟩), .pointer (some ⟨w.heap.size + 1, 0, none⟩), .string ⟨x.toArray⟩, .string ⟨b.toArray⟩, .string ⟨a.toArray⟩, .func (.func 52) #[] #[.pointer (some ⟨w.heap.size + 1 + 1, 0, none⟩), .pointer (some ⟨w.heap.size + 1 + 1 + 1, 0, none⟩)], .string ⟨x.toArray⟩, undef, undef, undef, undef, undef, undef, undef, undef, undef, undef, undef, undef, undef, undef, undef, undef], defers := [] }) ?assign ?body ?done ?stop
  case assign =>
    intro l x W K hK
    simp only [encL]
    gi_wp2
    exact hK
  case body =>
    rintro l pre x W ⟨hJ, hpre⟩
    obtain ⟨hx1, hx2⟩ := take_all9 _ _ _ hpre
    have hst := colsW_step hx1
    have hnx : (wordsB a).take (pre.length + 1) = pre ++ [x] := by rw [take_one9 hx1, hx2]
    rw [hnx, hx2] at hst
    have hxne : x ≠ [] := words_ne a x (List.mem_of_getElem? hx1)
    obtain ⟨y, hy⟩ : ∃ y, x[0]? = some y := by
      cases x with
      | nil => exact absurd rfl hxne
      | cons y r => exact ⟨y, rfl⟩
    have hlen : (colsW pre).1.length ≤ 100000000 := by
      have h1 := HWN.out
      have h2 := (List.getElem?_eq_some_iff.1 hx1).1
      have h3 : (colsW pre).1.length = pre.length := by simp [colsW]
      omega
    rw [colB_of hy] at hst
    have k0 : ∀ W, (Instr.index 9 (.string ⟨x.toArray⟩) (.int .i64 0)).run Tryd.prog W = .ok (.int .u8 (y.toNat : Int)) W := str_idx x 0 y hy
    obtain ⟨cs, hcs⟩ : ∃ cs, (colsW pre).1 = cs := ⟨_, rfl⟩
    obtain ⟨ok, hok⟩ : ∃ ok, (colsW pre).2 = ok := ⟨_, rfl⟩
    rw [hcs, hok] at hst hJ
    rw [hcs] at hlen
    have HJ := Lib.hid hJ
    have HWB : Hid (∀ (k : UInt8) (ok' : Bool) (V : World) m, CoJ w a cs ok' V → CallsIn (Fence.wide.inRound l) m Tryd.prog 23 #[.pointer (some ⟨w.heap.size, 0, none⟩), .int .u8 (k.toNat : Int)] V fun e w' => e = .returned .nilIface ∧ CoJ w a (cs ++ [k]) ok' w' ∧ KeepsOthers V w') := Lib.hid fun k ok' V m hV =>
      CallsIn.inRound l (callsIn_wide.2 ((wbyte_any w.heap.size w.heap.size cs k V hV.bd hlen hV.bel.size).mono fun e w' ⟨h1, h2, h3, h4⟩ => ⟨h1, hV.more h2 h3 h4⟩))
    clear hJ0 hJ hsz hx1 hx2 hpre hnx hxne hcs hok hy hlen
    by_cases e99 : y = 99
    · subst e99
      have k0' : ∀ W, (Instr.index 9 (.string ⟨x.toArray⟩) (.int .i64 0)).run Tryd.prog W = .ok (.int .u8 99) W := k0
      have HN : Hid (colsW (pre ++ [x]) = (cs ++ [99], ok)) := Lib.hid (by rw [hst]; simp)
      have HWK : Hid (∀ m, CallsIn (Fence.wide.inRound l) m Tryd.prog 23 #[.pointer (some ⟨w.heap.size, 0, none⟩), .int .u8 99] W fun e w' => e = .returned .nilIface ∧ CoJ w a (cs ++ [99]) ok w' ∧ KeepsOthers W w') := Lib.hid fun m => HWB.out 99 ok W m HJ.out
      clear hst k0
      gi_wp2_with (refine ⟨trivial, ?_⟩; gi_at_call 23; refine (HWK.out _).mono ?_; rintro e w' ⟨rfl, h1, h2⟩)
      refine ⟨h2.from _, trivial, ?_⟩
      rw [HN.out]
      exact h1
    by_cases e67 : y = 67
    · subst e67
      have k0' : ∀ W, (Instr.index 9 (.string ⟨x.toArray⟩) (.int .i64 0)).run Tryd.prog W = .ok (.int .u8 67) W := k0
      have HN : Hid (colsW (pre ++ [x]) = (cs ++ [99], ok)) := Lib.hid (by rw [hst]; simp)
      have HWK : Hid (∀ m, CallsIn (Fence.wide.inRound l) m Tryd.prog 23 #[.pointer (some ⟨w.heap.size, 0, none⟩), .int .u8 99] W fun e w' => e = .returned .nilIface ∧ CoJ w a (cs ++ [99]) ok w' ∧ KeepsOthers W w') := Lib.hid fun m => HWB.out 99 ok W m HJ.out
      clear hst k0
      gi_wp2_with (refine ⟨trivial, ?_⟩; gi_at_call 23; refine (HWK.out _).mono ?_; rintro e w' ⟨rfl, h1, h2⟩)
      refine ⟨h2.from _, trivial, ?_⟩
      rw [HN.out]
      exact h1
    by_cases e114 : y = 114
    · subst e114
      have k0' : ∀ W, (Instr.index 9 (.string ⟨x.toArray⟩) (.int .i64 0)).run Tryd.prog W = .ok (.int .u8 114) W := k0
      have HN : Hid (colsW (pre ++ [x]) = (cs ++ [114], ok)) := Lib.hid (by rw [hst]; simp)
      have HWK : Hid (∀ m, CallsIn (Fence.wide.inRound l) m Tryd.prog 23 #[.pointer (some ⟨w.heap.size, 0, none⟩), .int .u8 114] W fun e w' => e = .returned .nilIface ∧ CoJ w a (cs ++ [114]) ok w' ∧ KeepsOthers W w') := Lib.hid fun m => HWB.out 114 ok W m HJ.out
      clear hst k0
      gi_wp2_with (refine ⟨trivial, ?_⟩; gi_at_call 23; refine (HWK.out _).mono ?_; rintro e w' ⟨rfl, h1, h2⟩)
      refine ⟨h2.from _, trivial, ?_⟩
      rw [HN.out]
      exact h1
    by_cases e82 : y = 82
    · subst e82
      have k0' : ∀ W, (Instr.index 9 (.string ⟨x.toArray⟩) (.int .i64 0)).run Tryd.prog W = .ok (.int .u8 82) W := k0
      have HN : Hid (colsW (pre ++ [x]) = (cs ++ [114], ok)) := Lib.hid (by rw [hst]; simp)
      have HWK : Hid (∀ m, CallsIn (Fence.wide.inRound l) m Tryd.prog 23 #[.pointer (some ⟨w.heap.size, 0, none⟩), .int .u8 114] W fun e w' => e = .returned .nilIface ∧ CoJ w a (cs ++ [114]) ok w' ∧ KeepsOthers W w') := Lib.hid fun m => HWB.out 114 ok W m HJ.out
      clear hst k0
      gi_wp2_with (refine ⟨trivial, ?_⟩; gi_at_call 23; refine (HWK.out _).mono ?_; rintro e w' ⟨rfl, h1, h2⟩)
      refine ⟨h2.from _, trivial, ?_⟩
      rw [HN.out]
      exact h1
    by_cases e108 : y = 108
    · subst e108
      have k0' : ∀ W, (Instr.index 9 (.string ⟨x.toArray⟩) (.int .i64 0)).run Tryd.prog W = .ok (.int .u8 108) W := k0
      have HN : Hid (colsW (pre ++ [x]) = (cs ++ [108], ok)) := Lib.hid (by rw [hst]; simp)
      have HWK : Hid (∀ m, CallsIn (Fence.wide.inRound l) m Tryd.prog 23 #[.pointer (some ⟨w.heap.size, 0, none⟩), .int .u8 108] W fun e w' => e = .returned .nilIface ∧ CoJ w a (cs ++ [108]) ok w' ∧ KeepsOthers W w') := Lib.hid fun m => HWB.out 108 ok W m HJ.out
      clear hst k0
      gi_wp2_with (refine ⟨trivial, ?_⟩; gi_at_call 23; refine (HWK.out _).mono ?_; rintro e w' ⟨rfl, h1, h2⟩)
      refine ⟨h2.from _, trivial, ?_⟩
      rw [HN.out]
      exact h1
    by_cases e76 : y = 76
    · subst e76
      have k0' : ∀ W, (Instr.index 9 (.string ⟨x.toArray⟩) (.int .i64 0)).run Tryd.prog W = .ok (.int .u8 76) W := k0
      have HN : Hid (colsW (pre ++ [x]) = (cs ++ [108], ok)) := Lib.hid (by rw [hst]; simp)
      have HWK : Hid (∀ m, CallsIn (Fence.wide.inRound l) m Tryd.prog 23 #[.pointer (some ⟨w.heap.size, 0, none⟩), .int .u8 108] W fun e w' => e = .returned .nilIface ∧ CoJ w a (cs ++ [108]) ok w' ∧ KeepsOthers W w') := Lib.hid fun m => HWB.out 108 ok W m HJ.out
      clear hst k0
      gi_wp2_with (refine ⟨trivial, ?_⟩; gi_at_call 23; refine (HWK.out _).mono ?_; rintro e w' ⟨rfl, h1, h2⟩)
      refine ⟨h2.from _, trivial, ?_⟩
      rw [HN.out]
      exact h1
    have n1 := byte_ne e99
    have n2 := byte_ne e67
    have n3 := byte_ne e114
    have n4 := byte_ne e82
    have n5 := byte_ne e108
    have n6 := byte_ne e76
    have n1' : ((y.toNat : Int) == 99) = false := n1
    have n2' : ((y.toNat : Int) == 67) = false := n2
    have n3' : ((y.toNat : Int) == 114) = false := n3
    have n4' : ((y.toNat : Int) == 82) = false := n4
    have n5' : ((y.toNat : Int) == 108) = false := n5
    have n6' : ((y.toNat : Int) == 76) = false := n6
    have HN : Hid (colsW (pre ++ [x]) = (cs ++ [108], false)) := Lib.hid (by rw [hst]; simp [e99, e67, e114, e82, e108, e76])
    have q1 : W.cell? ⟨w.heap.size + 1, 0, none⟩ = some (.bool ok) := HJ.out.ok.cell 0
    have f1 : W.frozen? ⟨w.heap.size + 1, 0, none⟩ = false := HJ.out.ok.frozen (by simp)
    have HWK : Hid (∀ m, CallsIn (Fence.wide.inRound l) m Tryd.prog 23 #[.pointer (some ⟨w.heap.size, 0, none⟩), .int .u8 108] (W.setCell ⟨w.heap.size + 1, 0, none⟩ (.bool false)) fun e w' => e = .returned .nilIface ∧ CoJ w a (cs ++ [108]) false w' ∧ KeepsOthers (W.setCell ⟨w.heap.size + 1, 0, none⟩ (.bool false)) w') := Lib.hid fun m => HWB.out 108 false _ m HJ.out.no
    clear hst n1 n2 n3 n4 n5 n6 e99 e67 e114 e82 e108 e76
    gi_wp2_with (refine ⟨trivial, ?_⟩; gi_at_call 23; refine (HWK.out _).mono ?_; rintro e w' ⟨rfl, h1, h2⟩)
    refine ⟨((KeepsOthers.setCell _ _ _).trans h2).from _, trivial, ?_⟩
    rw [HN.out]
    exact h1
  case done =>
    rintro D W hD hJ hdef
    obtain ⟨R, hR⟩ : ∃ R, colsW (wordsB a) = R := ⟨_, rfl⟩
    rw [hR] at hJ
    have HR : Hid (colsB b = R) := Lib.hid (by rw [HCB.out, hR])
    obtain ⟨R1, R2⟩ := R
    simp only at hJ
    have q1 : W.cell? ⟨w.heap.size + 1, 0, none⟩ = some (.bool R2) := hJ.ok.cell 0
    have HJ := Lib.hid hJ
    have HD := Lib.hid hdef
    have S1 : Hid (∀ W' m, Below W.heap.size W W' → CallsIn Fence.wide m Tryd.prog 24 #[.pointer (some ⟨w.heap.size, 0, none⟩)] W' fun e w' => e = .returned (.string ⟨R1.toArray⟩) ∧ (CoJ w a R1 R2 w' ∧ KeepsOthers W' w')) := Lib.hid fun W' m hW' => callsIn_wide.2 ((bstring_any w.heap.size w.heap.size R1 W' (HJ.out.keep hW').bd (HJ.out.keep hW').bel.size).mono fun e w' ⟨h1, h2, h3, h4⟩ => ⟨h1, (HJ.out.keep hW').more h2 h3 h4⟩)
    clear hJ0 hJ hsz hdef HU hR
    gi_wp2_with fail
    refine wpIn_only ?_
    refine wpIn_wide.2 ?_
    go_region_with (go_at_call 24; refine (callsIn_wide.1 (S1.out _ 0 ((Below.refl _ W).drew))).mono ?_; rintro e w' ⟨rfl, hj', ko'⟩; have q1' : w'.cell? ⟨w.heap.size + 1, 0, none⟩ = some (.bool R2) := hj'.ok.cell 0)
    all_goals
      gi_wp2_with fail
      have hd2 : w'.heap[D]? = some (.deferred (some [])) := ko'.same _ _ HD.out rfl
      have hz := HSZ.out
      refine ⟨by simp [Act.put], .inl ⟨_, _, rfl, run_takeDeferred (w := w') hd2, ?_⟩⟩
      refine ⟨_, results_tmp2 (by rfl) _ _ _, ?_, (hj'.bel).trans ⟨rfl, rfl, rfl, by simp, fun k hk => World.putObj_heap_other (by omega)⟩⟩
      rw [HR.out]
      rfl
  case stop =>
    intro D c W _ h _
    exact h.elim
theorem columns_any (b : Txt) (w : World) (hU : U8 w) (hb : b.length ≤ 100000) :
    Calls Tryd.prog 9 #[.string ⟨b.toArray⟩] w fun e w' => e = .returned (.tuple #[.string ⟨(colsB b).1.toArray⟩, .bool (colsB b).2]) ∧ Below w.heap.size w w' := callsIn_wide.1 (columns_in b w hU hb)
end Go.Proofs.YtaeplneiicobgaaDoor
