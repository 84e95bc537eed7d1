/- A table's reader: a cell that goes on in the lines behind. -/
import Derived.Test.YtaeplneiicobgaaDoorVf
import Derived.Test.YtaeplneiicobgaaDoorJF
set_option linter.unusedVariables false
set_option linter.unusedSimpArgs false
namespace Go.Proofs.YtaeplneiicobgaaDoor
open Go.RowKit
attribute [local go_sem] Oper.semAt_some
attribute [local go_sem ↓ high] binop_eqlS binop_neqS slice_backS9 builtin_appP
structure SameT (s0 s : RS) : Prop where
  rows : s.rows = s0.rows
  cols : s.cols = s0.cols
  bx : s.bx = s0.bx
  al : s.al = s0.al
theorem SameT.refl (s : RS) : SameT s s := ⟨rfl, rfl, rfl, rfl⟩
theorem SameT.trans {a b c : RS} (h : SameT a b) (k : SameT b c) : SameT a c := ⟨k.rows.trans h.rows, k.cols.trans h.cols, k.bx.trans h.bx, k.al.trans h.al⟩
abbrev TakT := List Gly × List Dgn × Int × List Txt
theorem lnT_drop {L : List Txt} {k : Nat} {x : Txt} (hx : L[k]? = some x) : lnT (L.drop k) = x.length + 1 + lnT (L.drop (k + 1)) := by
  rw [drop_one9 hx]
  simp [lnT]
  try omega
/-- What such a cell's reading keeps to, and what the rest of it will tell. -/
structure BlK (L : List Txt) (line : Int) (s0 : RS) (T : TakT) (s : RS) (tx : List (List Gly)) : Prop where
  k0 : s0.k ≤ s.k
  kl : s.k ≤ L.length
  dl : s.d.length + lnT (L.drop s.k) ≤ s0.d.length + lnT (L.drop s0.k)
  tl : lens tx + tx.length + lnT (L.drop s.k) ≤ lnT (L.drop s0.k)
  same : SameT s0 s
  inv : takeT lgF (L.drop s.k) (line + s.k) (jns tx) s.d = T
/-- What has been told at the end of it. -/
structure BlE (L : List Txt) (line : Int) (s0 : RS) (T : TakT) (s : RS) (tx : List (List Gly)) (bh : List Txt) (en : Bool) : Prop where
  k0 : s0.k ≤ s.k
  kl : s.k ≤ L.length
  dl : s.d.length ≤ s0.d.length + lnT (L.drop s0.k)
  tl : lens tx + tx.length ≤ lnT (L.drop s0.k)
  same : SameT s0 s
  g : jns tx = T.1
  d : s.d = T.2.1
  fin : (en = false ∧ bh = [] ∧ T.2.2.2 = [] ∧ s.k = L.length) ∨ (en = true ∧ s0.k < s.k ∧ ∃ t, T.2.2.2 = t :: L.drop s.k ∧ bh = (cutB 9 t).tail ∧ T.2.2.1 = line + s.k - 1)
theorem lnT_drop_le : ∀ (L : List Txt) (k : Nat), lnT (L.drop k) ≤ lnT L
  | [], k => by simp
  | x :: L, 0 => Nat.le_refl _
  | x :: L, k + 1 => by
    have h := lnT_drop_le L k
    have e : lnT (x :: L) = x.length + 1 + lnT L := by simp [lnT]
    rw [List.drop_succ_cons, e]
    omega
theorem next_ln (line : Int) (s : RS) : line + ((s.next.k : Nat) : Int) - 1 = line + s.k := by
  show line + ((s.k + 1 : Nat) : Int) - 1 = _
  omega
theorem BlK.step {L : List Txt} {line : Int} {s0 : RS} {T : TakT} {s : RS} {tx : List (List Gly)} (h : BlK L line s0 T s tx) {x : Txt} (hx : L[s.k]? = some x) :
    (begT x = false → BlK L line s0 T (s.next.add (dgsB (line + s.k) (lgF x).2)) (tx ++ [(lgF x).1])) ∧ (begT x = true → BlE L line s0 T s.next tx (cutB 9 x).tail true) := by
  have hlt := (List.getElem?_eq_some_iff.1 hx).1
  have h2 := h.inv
  have h3 := h.dl
  have h4 := h.tl
  have h5 := h.k0
  have hd := lnT_drop hx
  have hlg := lgF_len x
  rw [drop_one9 hx] at h2
  unfold takeT at h2
  refine ⟨fun he => ?_, fun he => ?_⟩
  · rw [if_neg (by rw [he]; simp)] at h2
    have e1 : (dgsB (line + s.k) (lgF x).2).length = (lgF x).2.length := by simp [dgsB]
    refine ⟨by show s0.k ≤ s.k + 1; omega, by show s.k + 1 ≤ _; omega, ?_, ?_, h.same.trans ⟨rfl, rfl, rfl, rfl⟩, ?_⟩
    · show (s.d ++ dgsB (line + s.k) (lgF x).2).length + lnT (L.drop (s.k + 1)) ≤ _
      rw [List.length_append, e1]
      omega
    · rw [lens_app, lens_one, List.length_append]
      show _ + lnT (L.drop (s.k + 1)) ≤ _
      simp only [List.length_cons, List.length_nil]
      omega
    · rw [jns_snoc, ← h2]
      show takeT lgF (L.drop (s.k + 1)) (line + ((s.k + 1 : Nat) : Int)) _ (s.d ++ dgsB (line + s.k) (lgF x).2) = _
      rw [Int.natCast_add, ← Int.add_assoc]
      rfl
  · rw [if_pos he] at h2
    subst h2
    refine ⟨by show s0.k ≤ s.k + 1; omega, by show s.k + 1 ≤ _; omega, by show s.d.length ≤ _; omega, by omega, h.same.trans ⟨rfl, rfl, rfl, rfl⟩, rfl, rfl, .inr ⟨rfl, by show s0.k < s.k + 1; omega, x, rfl, rfl, ?_⟩⟩
    exact (next_ln line s).symm
theorem BlK.fin {L : List Txt} {line : Int} {s0 : RS} {T : TakT} {s : RS} {tx : List (List Gly)} (h : BlK L line s0 T s tx) (hk : s.k = L.length) : BlE L line s0 T s tx [] false := by
  have h2 := h.inv
  have h3 := h.dl
  have h4 := h.tl
  rw [hk, List.drop_length] at h2 h3 h4
  unfold takeT at h2
  subst h2
  exact ⟨h.k0, h.kl, by omega, by omega, h.same, rfl, rfl, .inl ⟨rfl, rfl, rfl, hk⟩⟩
/-- What the reading of such a cell leaves. -/
def BlP (L : List Txt) (line : Int) (s0 : RS) (T : TakT) (s : RS) (g : List Gly) (bh : List Txt) : Prop :=
  s0.k ≤ s.k ∧ s.k ≤ L.length ∧ s.d.length ≤ s0.d.length + lnT (L.drop s0.k) + 1 ∧ SameT s0 s ∧ g = T.1 ∧
    ((T.2.2.2 = [] ∧ bh = [] ∧ s.d = T.2.1 ++ [(7, line + s0.k - 1, 0)] ∧ s.k = L.length) ∨ (∃ t, T.2.2.2 = t :: L.drop s.k ∧ bh = (cutB 9 t).tail ∧ s.d = T.2.1 ∧ T.2.2.1 = line + s.k - 1 ∧ s0.k < s.k))
/-- What a text more turns. -/
def glyS (line : Int) (s : RS) (x : Txt) : RS := s.next.add (dgsB (line + s.k) (lgF x).2)
set_option maxRecDepth 100000 in
set_option maxHeartbeats 8000000 in
theorem block_in9 {w : World} {B : Nat} {line : Int} {a0 : Option Addr} {c0 : Nat} (L : List Txt) (s0 : RS) (W : World) (hRI : RI w B line (.slice a0 L.length c0) s0 W) (hS : Ss w (.slice a0 L.length c0) L) (hU : U8 w) (hL : ∀ x ∈ L, x.length ≤ 2000) (hl : lnT L ≤ 40000) (hn : L.length ≤ 40000) (h0 : 0 ≤ line) (h1 : line ≤ 100000)
    (hk0 : s0.k ≤ L.length) (hd0 : s0.d.length ≤ 300000) :
    CallsIn Fence.wide 9 Tryd.prog 45 #[.pointer (some ⟨B, 0, none⟩)] W fun e W' => ∃ (x : Value) (a : Option Addr) (c : Nat) (s : RS) (g : List Gly) (bh : List Txt), e = .returned (.tuple #[x, .slice a bh.length c]) ∧ RI w B line (.slice a0 L.length c0) s W' ∧ FrR W W' ∧
      GlF W.heap.size W' x g ∧ StS W' (.slice a bh.length c) bh ∧ BlP L line s0 (takeT lgF (L.drop s0.k) (line + s0.k) [] s0.d) s g bh := by
  obtain ⟨T, hT⟩ : ∃ T, takeT lgF (L.drop s0.k) (line + s0.k) [] s0.d = T := ⟨_, rfl⟩
  rw [hT]
  have hlt := hRI.lt
  have hWs := hRI.bel.size
  have L1 : Hid (∀ V, CallsIn Fence.wide 8 Tryd.prog 28 #[.pointer (some ⟨B, 0, none⟩)] V fun e w' => e = .returned (.func (.func 44) #[] #[.pointer (some ⟨V.heap.size, 0, none⟩)]) ∧ V.alloc (.cells #[.pointer (some ⟨B, 0, none⟩)] 66) = w') := Lib.hid fun V => callsIn_wide.2 (left9_any B V)
  obtain ⟨VA, hVA⟩ : ∃ VA, W.alloc (.cells #[.pointer (some ⟨B, 0, none⟩)] 66) = VA := ⟨_, rfl⟩
  have y0 : VA.heap.size = W.heap.size + 1 := by rw [← hVA]; simp
  have bA : Below W.heap.size W VA := by rw [← hVA]; exact below_lit W _
  have kA : Blk VA W.heap.size 66 [.pointer (some ⟨B, 0, none⟩)] := by rw [← hVA]; exact heap_alloc_new W _
  have q0 : VA.cell? ⟨W.heap.size, 0, none⟩ = some (.pointer (some ⟨B, 0, none⟩)) := kA.cell 0
  obtain ⟨first, hfi⟩ : ∃ first, line + (s0.k : Int) - 1 = first := ⟨_, rfl⟩
  have A1 : Hid (CallsIn Fence.wide 8 Tryd.prog 42 #[.pointer (some ⟨B, 0, none⟩)] VA fun e w' => e = .returned (.int .i64 first) ∧ Below VA.heap.size VA w') := Lib.hid (callsIn_wide.2 (by
    have h := at9_any VA (hRI.keep bA) h0 h1 (by omega)
    rw [hfi] at h
    exact h))
  refine callsIn_of_wp_marks Tryd.func45 rfl trivial ?_ rfl
  simp only [Tryd.ntmps45, List.size_toArray, List.length_cons, List.length_nil, Nat.reduceAdd, Nat.reduceSub, Array.replicate_succ, Array.replicate_zero, List.push_toArray, List.append_toArray, List.nil_append, List.cons_append]
  gi_wp2_with fail
  refine wpIn_scope_straight ?_
  gi_wp2_with (refine ⟨trivial, ?_⟩; gi_at_call 42; refine A1.out.mono ?_; rintro e V1 ⟨rfl, b1⟩; have B1 := Lib.hid b1; have q0' : V1.cell? ⟨W.heap.size, 0, none⟩ = some (.pointer (some ⟨B, 0, none⟩)) := (Blk.below kA b1).cell 0; clear b1)
  refine wpIn_label ?_
  obtain ⟨U1, hU1⟩ : ∃ U1, V1.alloc (.cells #[.slice none 0 0] 47) = U1 := ⟨_, rfl⟩
  obtain ⟨U2, hU2⟩ : ∃ U2, U1.alloc (.cells #[.slice none 0 0] 28) = U2 := ⟨_, rfl⟩
  obtain ⟨U3, hU3⟩ : ∃ U3, U2.alloc (.cells #[.bool false] 4) = U3 := ⟨_, rfl⟩
  rw [hU1, hU2, hU3]
  have zA := bA.size
  have z1 := B1.out.size
  have y1 : U1.heap.size = V1.heap.size + 1 := by rw [← hU1]; simp
  have y2 : U2.heap.size = V1.heap.size + 2 := by rw [← hU2]; simp [y1]
  have y3 : U3.heap.size = V1.heap.size + 3 := by rw [← hU3]; simp [y2]
  have b1 : Below V1.heap.size V1 U1 := by rw [← hU1]; exact below_lit V1 _
  have b2 : Below U1.heap.size U1 U2 := by rw [← hU2]; exact below_lit U1 _
  have b3 : Below U2.heap.size U2 U3 := by rw [← hU3]; exact below_lit U2 _
  have k1 : Blk U1 V1.heap.size 47 [.slice none 0 0] := by rw [← hU1]; exact heap_alloc_new V1 _
  have k2 : Blk U2 (V1.heap.size + 1) 28 [.slice none 0 0] := by rw [← hU2, ← y1]; exact heap_alloc_new U1 _
  have k3 : Blk U3 (V1.heap.size + 2) 4 [.bool false] := by rw [← hU3, ← y2]; exact heap_alloc_new U2 _
  have bAll : Below VA.heap.size VA U3 := B1.out.trans ((b1.mono z1).trans ((b2.mono (by omega)).trans (b3.mono (by omega))))
  have kA3 := kA.below bAll
  have q3 : U3.cell? ⟨W.heap.size, 0, none⟩ = some (.pointer (some ⟨B, 0, none⟩)) := kA3.cell 0
  have hR3 := (hRI.keep bA).keep bAll
  have hF3 : FrR W U3 := (FrR.below bA).trans (FrR.below bAll)
  have k1' := (k1.below b2).below b3
  have k2' := k2.below b3
  clear q0 q0' A1 hU1 hU2 hU3 b1 b2 b3 k1 k2 kA bAll hVA
  gi_wp2_with (refine ⟨trivial, ?_⟩; gi_at_call 28; refine (L1.out _).mono ?_; rintro e w' ⟨rfl, rfl⟩)
  have hpos : ∀ (s : RS) x, L[s.k]? = some x → x.length ≤ 2000 := fun s x hx => hL x (List.mem_of_getElem? hx)
  obtain ⟨U4, hU4⟩ : ∃ U4, U3.alloc (.cells #[.pointer (some ⟨B, 0, none⟩)] 66) = U4 := ⟨_, rfl⟩
  rw [hU4]
  have y4 : U4.heap.size = V1.heap.size + 4 := by rw [← hU4]; simp [y3]
  have b4 : Below U3.heap.size U3 U4 := by rw [← hU4]; exact below_lit U3 _
  have k4 : Blk U4 (V1.heap.size + 3) 66 [.pointer (some ⟨B, 0, none⟩)] := by rw [← hU4, ← y3]; exact heap_alloc_new U3 _
  have hM0 : BlM w W B W.heap.size V1.heap.size line (.slice a0 L.length c0) s0 [] [] false U4 :=
    ⟨hR3.keep b4, hF3.trans (FrR.below b4), kA3.below b4, ⟨_, k1'.below b4, CInv.nil _ _⟩, ⟨_, k2'.below b4, StS.nil _⟩, k3.below b4, k4, ⟨s0, hRI, rfl⟩, Nat.le_refl _, by omega⟩
  have hK0 : BlK L line s0 T s0 [] := ⟨Nat.le_refl _, hk0, Nat.le_refl _, by simp [lens], SameT.refl _, hT⟩
  have hDL : lnT (L.drop s0.k) ≤ lnT L := lnT_drop_le L s0.k
  have HGL : Hid (∀ (s : RS) tx x V l m, BlM w W B W.heap.size V1.heap.size line (.slice a0 L.length c0) s.next tx [] false V → s.k ≤ L.length → s.d.length ≤ 400000 → x.length ≤ 2000 → CallsIn (Fence.wide.inRound l) m Tryd.prog 46 #[.pointer (some ⟨B, 0, none⟩), .string ⟨x.toArray⟩] V fun e V' => ∃ a c, e = .returned (.slice a (lgF x).1.length c) ∧ BlM w W B W.heap.size V1.heap.size line (.slice a0 L.length c0) (glyS line s x) tx [] false V' ∧ GlF W.heap.size V' (.slice a (lgF x).1.length c) (lgF x).1 ∧ FrR V V') := Lib.hid fun s tx x V l m hV hk hd hx =>
    CallsIn.inRound l (callsIn_wide.2 ((glyphs_any x V hV.ri hx h0 h1 (by show s.k + 1 ≤ _; omega) (by show s.d.length ≤ _; omega)).mono fun e V' ⟨y, q1, q2, q3, q4⟩ => by
      obtain ⟨a, c, rfl⟩ := (FOwn.sl gcell_len q2).len
      rw [next_ln] at q3
      exact ⟨a, c, q1, hV.go q3 q4, GlF.own q2 hV.fr.size, q4⟩))
  have HJN : Hid (∀ s tx bh en V, BlM w W B W.heap.size V1.heap.size line (.slice a0 L.length c0) s tx bh en V → lens tx + tx.length ≤ 90000 → ∃ ta tc ba bc, V.cell? ⟨V1.heap.size, 0, none⟩ = some (.slice ta tx.length tc) ∧ V.cell? ⟨V1.heap.size + 1, 0, none⟩ = some (.slice ba bh.length bc) ∧
      Calls Tryd.prog 59 #[.slice ta tx.length tc] V.drew fun e V' => ∃ x, e = .returned x ∧ V'.cell? ⟨V1.heap.size + 1, 0, none⟩ = some (.slice ba bh.length bc) ∧ StS V' (.slice ba bh.length bc) bh ∧ GlF W.heap.size V' x (jns tx) ∧ RI w B line (.slice a0 L.length c0) s V' ∧ FrR W V' ∧ KeepsOthers V V') := Lib.hid fun s tx bh en V hV hlt2 => by
    obtain ⟨v, t1, t2⟩ := hV.tx
    obtain ⟨ta, tc, rfl⟩ := t2.len
    obtain ⟨u, t3, t4⟩ := hV.bh
    obtain ⟨ba, bc, rfl⟩ := t4.1.len
    have hMd := hV.keep (Below.refl V.heap.size V).drew
    obtain ⟨v', t1', t2'⟩ := hMd.tx
    have e1 : v' = .slice ta tx.length tc := by
      have q1 : V.drew.cell? ⟨V1.heap.size, 0, none⟩ = some v' := t1'.cell 0
      have q2 : V.drew.cell? ⟨V1.heap.size, 0, none⟩ = some (.slice ta tx.length tc) := t1.cell 0
      rw [q1] at q2
      injection q2
    subst e1
    refine ⟨ta, tc, ba, bc, t1.cell 0, t3.cell 0, (joined_any _ W.heap.size _ tx _ V.drew rfl t2'.jo (fun b hb => (Array.getElem?_eq_some_iff.1 hb.2.choose_spec.choose_spec).1) hMd.fr.size hlt2).mono ?_⟩
    rintro e V' ⟨x, rfl, j1, b1⟩
    have f1 := FrR.below b1
    have f2 : FrR V V' := (FrR.below (Below.refl V.heap.size V).drew).trans f1
    exact ⟨x, rfl, (f2.blk t3 (by decide) (by decide)).cell 0, t4.fr f2, j1.glf b1, hMd.ri.keep b1, hMd.fr.trans f1, f2.ko⟩
  clear hU4 b4 k4 k3 k2' k1' hR3 hF3 kA3 q3 L1 y2 y1
  refine range_fr rfl (by decide) (gf := 44) (lb := #[.pointer (some ⟨V1.heap.size + 3, 0, none⟩)]) rfl trivial (enters_of Tryd.func44 (by kernel_rfl) rfl)
    (left_seq 8 (V1.heap.size + 3) B w line L a0 c0 (glyS line) (fun s V => ∃ tx, BlM w W B W.heap.size V1.heap.size line (.slice a0 L.length c0) s tx [] false V ∧ BlK L line s0 T s tx) (fun s x V => ∃ tx, BlM w W B W.heap.size V1.heap.size line (.slice a0 L.length c0) s.next tx [] false V ∧ (L[s.k]? = some x ∧ BlK L line s0 T s tx)) (by omega) hS
      (fun s x => by show s.k < s.k + 1; omega)
      (fun s V ⟨tx, h, k⟩ => ⟨h.ri, k.kl, h.b2⟩)
      (fun s A A' ⟨tx, h, k⟩ hb => ⟨tx, h.keep hb, k⟩)
      (fun s A x ⟨tx, h, k⟩ hx => ⟨tx, h.go h.ri.next (h.ri.frp 2 _), hx, k⟩)
      (fun s x A A' ⟨tx, h, k⟩ hb => ⟨tx, h.keep hb, k⟩)
      (fun s x V ⟨tx, h, k⟩ => ⟨h.ri, h.b2⟩) s0)
    (fun _ _ => trivial) (fun _ _ _ _ _ _ _ => trivial) (fun _ => rfl)
    (fun c V => c = .exit 0 ∧ ∃ s tx bh, BlE L line s0 T s tx bh true ∧ BlM w W B W.heap.size V1.heap.size line (.slice a0 L.length c0) s tx bh true V)
    (fun s => Fr0.ex fun tx => (BlM.fr0 (by omega) (by omega)).and (Fr0.pure _ _))
    (fun s x => Fr0.ex fun tx => (BlM.fr0 (by omega) (by omega)).and (Fr0.pure _ _))
    (fun c => (Fr0.pure _ _).and (Fr0.ex fun s => Fr0.ex fun tx => Fr0.ex fun bh => (Fr0.pure _ _).and (BlM.fr0 (by omega) (by omega))))
    (Fr0.ex fun s => (Fr0.ex fun tx => (BlM.fr0 (by omega) (by omega)).and (Fr0.pure _ _)).and (Fr0.pure _ _))
    ⟨[], hM0, hK0⟩
    (fun x => { tmps := #[.pointer (some ⟨B, 0, none⟩), .pointer (some ⟨W.heap.size, 0, none⟩), .slice none 0 0, .slice none 0 0, .int .i64 first, .pointer (some ⟨V1.heap.size, 0, none⟩), .pointer (some ⟨V1.heap.size + 1, 0, none⟩), .pointer (some ⟨V1.heap.size + 1 + 1, 0, none⟩), .string ⟨x.toArray⟩, .pointer (some ⟨B, 0, none⟩), .int .i64 first, .pointer (some ⟨B, 0, none⟩), .func (.func 44) #[] #[.pointer (some ⟨V1.heap.size + 3, 0, none⟩)], .string ⟨x.toArray⟩, undef, undef, undef, undef, undef, undef, undef, undef, undef, undef, undef, undef, undef, undef, undef, undef, undef, undef, undef, undef], defers := [] }) ?assign ?body ?done ?stop
  case assign =>
    intro l x V K hK
    simp only [encL]
    gi_wp2
    exact hK
  case body =>
    rintro l s x V ⟨tx, hM, hx, hK⟩
    have hst := hK.step hx
    have hxl := hpos s x hx
    have hkl := (List.getElem?_eq_some_iff.1 hx).1
    have hdl := hK.dl
    have htl := hK.tl
    have q1 : V.cell? ⟨W.heap.size, 0, none⟩ = some (.pointer (some ⟨B, 0, none⟩)) := hM.b1.cell 0
    obtain ⟨b2, hb⟩ : ∃ b2, begT x = b2 := ⟨_, rfl⟩
    have HP : Hid (∀ V' m, CallsIn (Fence.wide.inRound l) m Tryd.prog 58 #[.string ⟨x.toArray⟩, .string ⟨#[84, 125]⟩] V' fun e w' => e = .returned (.bool b2) ∧ V' = w') := Lib.hid fun V' m => by
      have h := haspre_any x 84 125 V' (by omega)
      have e : (x.take 2 == [84, 125]) = b2 := hb
      rw [e] at h
      exact CallsIn.inRound l (callsIn_wide.2 h)
    rw [hb] at hst
    have HST := Lib.hid hst
    have HM := Lib.hid hM
    cases b2
    · have htl2 : tx.length ≤ 500000 := by omega
      obtain ⟨v, t1, t2⟩ := hM.tx
      obtain ⟨ta, tc, rfl⟩ := t2.len
      have q2 : V.cell? ⟨V1.heap.size, 0, none⟩ = some (.slice ta tx.length tc) := t1.cell 0
      obtain ⟨n, hn⟩ : ∃ n, tx.length = n := ⟨_, rfl⟩
      have hMd := hM.keep (Below.refl V.heap.size V).drew
      have hne : ∀ A, FrR V A → A.cell? ⟨V1.heap.size, 0, none⟩ = some (.slice ta tx.length tc) := fun A hf => (hf.blk t1 (by decide) (by decide)).cell 0
      have HG : Hid (∀ m, CallsIn (Fence.wide.inRound l) m Tryd.prog 46 #[.pointer (some ⟨B, 0, none⟩), .string ⟨x.toArray⟩] V.drew fun e V' => ∃ ga gn gc a' c' w', e = .returned (.slice ga gn gc) ∧ V'.cell? ⟨V1.heap.size, 0, none⟩ = some (.slice ta n tc) ∧ (V'.alloc (.cells #[.slice ga gn gc] 46)).cell? ⟨V1.heap.size, 0, none⟩ = some (.slice ta n tc) ∧ (appP #[.slice ta n tc, .slice (some ⟨V'.heap.size, 0, none⟩) 1 1]).run Tryd.prog (V'.alloc (.cells #[.slice ga gn gc] 46)) = .ok (.value (.slice a' (n + 1) c')) w' ∧ w'.cell? ⟨V1.heap.size, 0, none⟩ = some (.slice ta n tc) ∧ w'.frozen? ⟨V1.heap.size, 0, none⟩ = false ∧
          BlM w W B W.heap.size V1.heap.size line (.slice a0 L.length c0) (glyS line s x) (tx ++ [(lgF x).1]) [] false (w'.setCell ⟨V1.heap.size, 0, none⟩ (.slice a' (n + 1) c')) ∧ KeepsOthers V (w'.setCell ⟨V1.heap.size, 0, none⟩ (.slice a' (n + 1) c'))) := Lib.hid fun m => by
        refine (HGL.out s tx x V.drew l m hMd (by omega) (by omega) hxl).mono ?_
        rintro e V' ⟨ga, gc, rfl, m1, g1, f1⟩
        obtain ⟨ta2, tc2, a', c', w', r0, r1, r2, r3, r4, r5⟩ := m1.push htl2 (ga, (lgF x).1.length, gc) _ g1
        have hf : FrR V V' := (FrR.below (Below.refl V.heap.size V).drew).trans f1
        have e0 := hne V' hf
        rw [r0] at e0
        injection e0 with e0
        injection e0 with e1 e2 e3
        subst e1 e3
        rw [hn] at r0 r1 r2 r4 r5
        exact ⟨ga, _, gc, a', c', w', rfl, r0, ((below_lit V' _).cell (World.block_lt_of_cell? _ _ r0)).trans r0, r1, r2, r3, r4, hf.ko.trans r5⟩
      rw [hn] at q2
      clear hM hK hst hx HGL hM0 hK0 hb hRI hS hU hpos hL hT t1 t2 hMd hne hn htl2
      gi_wp2_with (refine ⟨trivial, ?_⟩; gi_at_call 58; refine (HP.out _ _).mono ?_; rintro e V2 ⟨rfl, rfl⟩)
      gi_region_with (refine ⟨trivial, ?_⟩; gi_at_call 46; refine (HG.out _).mono ?_; rintro e V3 ⟨ga, gn, gc, a', c', w', rfl, u0, u1, kk, u2, u3, m1, ko1⟩; have M1 := Lib.hid m1; have KO1 := Lib.hid ko1; clear m1 ko1)
      all_goals
        gi_wp2_with fail
        exact ⟨KO1.out.from _, trivial, _, M1.out, HST.out.1 (by simp)⟩
    · have HCU : Hid (∀ m, CallsIn (Fence.wide.inRound l) m Tryd.prog 12 #[.string ⟨x.toArray⟩] V fun e V' => ∃ v a c, e = .returned v ∧ (∀ W' : World, (backS9 v (.int .i64 1)).run Tryd.prog W' = .ok (.slice a (cutB 9 x).tail.length c) W') ∧ StS V' (.slice a (cutB 9 x).tail.length c) (cutB 9 x).tail ∧ BlM w W B W.heap.size V1.heap.size line (.slice a0 L.length c0) s.next tx [] false V' ∧ FrR V V') := Lib.hid fun m => by
        refine CallsIn.inRound l (callsIn_wide.2 ((cut9_any x V (by omega)).mono ?_))
        rintro e V' ⟨v, rfl, o1, b1⟩
        obtain ⟨a, c, r1, r2⟩ := (StS.own o1).tail (by rw [cutB_len]; omega)
        exact ⟨v, a, c, rfl, r1, r2, hM.keep b1, FrR.below b1⟩
      clear hM hK hst hx HGL hM0 hK0 hb hRI hS hU hpos hL hT
      obtain ⟨nb, hnb⟩ : ∃ nb, (cutB 9 x).tail.length = nb := ⟨_, rfl⟩
      rw [hnb] at HCU
      gi_wp2_with (first
        | (refine ⟨trivial, ?_⟩; gi_at_call 58; refine (HP.out _ _).mono ?_; rintro e V2 ⟨rfl, rfl⟩)
        | (refine ⟨trivial, ?_⟩; gi_at_call 12; refine (HCU.out _).mono ?_; rintro e V3 ⟨v, sa, sc, rfl, kk, st, m1, f1⟩; have ST := Lib.hid st; have M1 := Lib.hid m1; have F1 := Lib.hid f1; obtain ⟨u, t3, -⟩ := m1.bh; have c2 : V3.cell? ⟨V1.heap.size + 1, 0, none⟩ = some u := t3.cell 0; have c3 : V3.cell? ⟨V1.heap.size + 1 + 1, 0, none⟩ = some (.bool false) := m1.en.cell 0; have d2 : V3.frozen? ⟨V1.heap.size + 1, 0, none⟩ = false := t3.frozen (by simp); have d3 : V3.frozen? ⟨V1.heap.size + 1 + 1, 0, none⟩ = false := m1.en.frozen (by simp); clear st m1 f1 t3))
      have HKO : Hid (KeepsOthers V ((V3.setCell ⟨V1.heap.size + 1, 0, none⟩ (.slice sa nb sc)).setCell ⟨V1.heap.size + 1 + 1, 0, none⟩ (.bool true))) := Lib.hid (F1.out.ko.trans ((KeepsOthers.setCell _ _ _).trans (KeepsOthers.setCell _ _ _)))
      exact ⟨HKO.out.from _, rfl, _, _, _, HST.out.2 (by simp), M1.out.brk ST.out⟩
  case done =>
    rintro D V hD ⟨s, ⟨tx, hM, hK⟩, hk⟩ hdef
    have hE := hK.fin hk
    have hdl := hE.dl
    have T1 := Lib.hid (fun m => callsIn_wide (n := m) |>.2 (tell9_any V hM.ri 7 first (by omega)))
    have c1 : V.cell? ⟨V1.heap.size + 1 + 1, 0, none⟩ = some (.bool false) := hM.en.cell 0
    have c2 : V.cell? ⟨W.heap.size, 0, none⟩ = some (.pointer (some ⟨B, 0, none⟩)) := hM.b1.cell 0
    have HM := Lib.hid hM
    have HE := Lib.hid hE
    have HD := Lib.hid hdef
    clear hM hK hE hdef HGL hM0 hK0 hRI hS hU hpos hL hT
    gi_wp2_with (refine ⟨trivial, ?_⟩; gi_at_call 41; refine (T1.out _).mono ?_; rintro e V2 ⟨rfl, r1, f1⟩; have M2 := Lib.hid (HM.out.go r1 f1); have KO2 := Lib.hid f1.ko; clear r1 f1)
    have hjl : lens tx + tx.length ≤ 90000 := by have := HE.out.tl; omega
    obtain ⟨ta, tc, ba, bc, c3, c4, hJ⟩ := HJN.out _ _ _ _ _ M2.out hjl
    have HJ := Lib.hid hJ
    obtain ⟨nt, hnt⟩ : ∃ nt, tx.length = nt := ⟨_, rfl⟩
    obtain ⟨nb, hnb⟩ : ∃ nb, ([] : List Txt).length = nb := ⟨_, rfl⟩
    rw [hnt] at c3 HJ
    rw [hnb] at c4 HJ
    clear hJ HJN
    gi_wp2_with fail
    refine wpIn_only ?_
    refine wpIn_wide.2 ?_
    go_region_with (go_at_call 59; refine HJ.out.mono ?_; rintro e V3 ⟨x, rfl, c4', st, gl, r3, f3, ko3⟩; have RS3 := Lib.hid (And.intro st (And.intro gl (And.intro r3 (And.intro f3 ko3)))); clear st gl r3 f3 ko3)
    all_goals
      gi_wp2_with fail
      rw [Exit.noGoto_ret]
      obtain ⟨st, gl, r3, f3, ko3⟩ := RS3.out
      have hd2 : V3.heap[D]? = some (.deferred (some [])) := ko3.same _ _ (KO2.out.same _ _ HD.out rfl) rfl
      refine ⟨by simp [Act.put], .inl ⟨_, _, rfl, run_takeDeferred (w := V3) hd2, ?_⟩⟩
      refine ⟨_, results_tmp2 (by rfl) _ _ _, x, ba, bc, _, jns tx, ([] : List Txt), ?_, (RI.fr0 (Nat.le_refl _)).put _ r3 (by omega) hd2 rfl, (FrR.fr0 (Nat.le_refl _)).put _ f3 (by omega) hd2 rfl, GlF.fr0.put (B := 0) _ gl (Nat.zero_le _) hd2 rfl, ?_, ?_⟩
      · rw [hnb]; rfl
      · rw [hnb]; exact StS.fr0.put (B := 0) _ st (Nat.zero_le _) hd2 rfl
      · have hE := HE.out
        refine ⟨hE.k0, hE.kl, ?_, hE.same.trans ⟨rfl, rfl, rfl, rfl⟩, hE.g, .inl ?_⟩
        · show (s.d ++ [(7, first, 0)]).length ≤ _
          rw [List.length_append]
          have := hE.dl
          simp only [List.length_cons, List.length_nil]
          omega
        · rcases hE.fin with ⟨-, -, q3, q4⟩ | ⟨q, -⟩
          · exact ⟨q3, rfl, by show s.d ++ [(7, first, 0)] = _; rw [hE.d, hfi], q4⟩
          · cases q
  case stop =>
    rintro D c V hD ⟨rfl, s, tx, bh, hE, hM⟩ hdef
    have c1 : V.cell? ⟨V1.heap.size + 1 + 1, 0, none⟩ = some (.bool true) := hM.en.cell 0
    have HM := Lib.hid hM
    have HE := Lib.hid hE
    have HD := Lib.hid hdef
    clear hM hE hdef HGL hM0 hK0 hRI hS hU hpos hL hT
    have hjl : lens tx + tx.length ≤ 90000 := by have := HE.out.tl; omega
    obtain ⟨ta, tc, ba, bc, c3, c4, hJ⟩ := HJN.out _ _ _ _ _ HM.out hjl
    have HJ := Lib.hid hJ
    obtain ⟨nt, hnt⟩ : ∃ nt, tx.length = nt := ⟨_, rfl⟩
    obtain ⟨nb, hnb⟩ : ∃ nb, bh.length = nb := ⟨_, rfl⟩
    rw [hnt] at c3 HJ
    rw [hnb] at c4 HJ
    clear hJ HJN
    gi_wp2_with fail
    refine wpIn_only ?_
    refine wpIn_wide.2 ?_
    go_region_with (go_at_call 59; refine HJ.out.mono ?_; rintro e V3 ⟨x, rfl, c4', st, gl, r3, f3, ko3⟩; have RS3 := Lib.hid (And.intro st (And.intro gl (And.intro r3 (And.intro f3 ko3)))); clear st gl r3 f3 ko3)
    all_goals
      gi_wp2_with fail
      rw [Exit.noGoto_ret]
      obtain ⟨st, gl, r3, f3, ko3⟩ := RS3.out
      have hd2 : V3.heap[D]? = some (.deferred (some [])) := ko3.same _ _ HD.out rfl
      refine ⟨by simp [Act.put], .inl ⟨_, _, rfl, run_takeDeferred (w := V3) hd2, ?_⟩⟩
      refine ⟨_, results_tmp2 (by rfl) _ _ _, x, ba, bc, _, jns tx, bh, ?_, (RI.fr0 (Nat.le_refl _)).put _ r3 (by omega) hd2 rfl, (FrR.fr0 (Nat.le_refl _)).put _ f3 (by omega) hd2 rfl, GlF.fr0.put (B := 0) _ gl (Nat.zero_le _) hd2 rfl, ?_, ?_⟩
      · rw [hnb]; rfl
      · rw [hnb]; exact StS.fr0.put (B := 0) _ st (Nat.zero_le _) hd2 rfl
      · have hE := HE.out
        refine ⟨hE.k0, hE.kl, by have := hE.dl; omega, hE.same, hE.g, .inr ?_⟩
        rcases hE.fin with ⟨q, -⟩ | ⟨-, q1, t, q2, q3, q4⟩
        · cases q
        · exact ⟨t, q2, q3, hE.d, q4, q1⟩
theorem block_any9 {w : World} {B : Nat} {line : Int} {a0 : Option Addr} {c0 : Nat} (L : List Txt) (s0 : RS) (W : World) (hRI : RI w B line (.slice a0 L.length c0) s0 W) (hS : Ss w (.slice a0 L.length c0) L) (hU : U8 w) (hL : ∀ x ∈ L, x.length ≤ 2000) (hl : lnT L ≤ 40000) (hn : L.length ≤ 40000) (h0 : 0 ≤ line) (h1 : line ≤ 100000)
    (hk0 : s0.k ≤ L.length) (hd0 : s0.d.length ≤ 300000) :
    Calls Tryd.prog 45 #[.pointer (some ⟨B, 0, none⟩)] W fun e W' => ∃ (x : Value) (a : Option Addr) (c : Nat) (s : RS) (g : List Gly) (bh : List Txt), e = .returned (.tuple #[x, .slice a bh.length c]) ∧ RI w B line (.slice a0 L.length c0) s W' ∧ FrR W W' ∧
      GlF W.heap.size W' x g ∧ StS W' (.slice a bh.length c) bh ∧ BlP L line s0 (takeT lgF (L.drop s0.k) (line + s0.k) [] s0.d) s g bh := callsIn_wide.1 (block_in9 L s0 W hRI hS hU hL hl hn h0 h1 hk0 hd0)
end Go.Proofs.YtaeplneiicobgaaDoor
