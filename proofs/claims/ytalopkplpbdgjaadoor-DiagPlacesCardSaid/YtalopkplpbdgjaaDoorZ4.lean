/- The contract of made: errors that are made one of the other tell what genD says. -/
import Derived.Test.YtalopkplpbdgjaaDoorZ3
namespace Go.Proofs.YtalopkplpbdgjaaDoor
open Go.RowKit Go.Shelf Go.Extern.Stop Go.Stop Go.Extern

attribute [local go_sem ↓ high] buildSlice24
attribute [local go_sem ↓ high] builtin_app24

/-- The slice value u reads as ds, of four numbers each. -/
def SDo (W : World) (u : Value) (ds : List Do4) : Prop :=
  ∃ a cap, u = .slice a ds.length cap ∧ ∀ j d, ds[j]? = some d → ∃ g off, a = some ⟨g, off, none⟩ ∧ W.cell? ⟨g, off + j * 4, none⟩ = some (.int .i64 d.1) ∧ W.cell? ⟨g, off + j * 4 + 1, none⟩ = some (.int .i64 d.2.1) ∧ W.cell? ⟨g, off + j * 4 + 2, none⟩ = some (.int .i64 d.2.2.1) ∧ W.cell? ⟨g, off + j * 4 + 3, none⟩ = some (.int .i64 d.2.2.2)

theorem genD_snoc (d : Do4) : ∀ (l : List Do4) (out : List (List D)), genD out (l ++ [d]) = genD out l ++ [stepD (genD out l) d]
  | [], _ => rfl
  | _ :: l, out => by simp only [List.cons_append, genD]; exact genD_snoc d l _
theorem genD_length : ∀ (l : List Do4) (out : List (List D)), (genD out l).length = out.length + l.length
  | [], _ => rfl
  | _ :: l, out => by simp only [genD, genD_length l]; simp; omega

/-- Errors and what they tell, one by one. -/
def Pairs (W : World) (n : Nat) (vs : List Value) (gs : List (List D)) : Prop := ∀ q, EO W n (vs.getD q .nilIface) (gs.getD q [])
theorem Pairs.at {W : World} {n : Nat} {vs : List Value} {gs : List (List D)} (h : Pairs W n vs gs) (k : Int) : EO W n (atZ .nilIface vs k) (atZ [] gs k) := by
  unfold atZ
  split
  · exact .inl ⟨rfl, rfl⟩
  · exact h _
theorem Pairs.snoc {W : World} {n : Nat} {vs : List Value} {gs : List (List D)} {v : Value} {d : List D} (h : Pairs W n vs gs) (hl : vs.length = gs.length) (hv : EO W n v d) : Pairs W n (vs ++ [v]) (gs ++ [d]) := by
  intro q
  rcases Nat.lt_trichotomy q vs.length with hq | hq | hq
  · have := h q
    simp only [List.getD_eq_getElem?_getD] at this ⊢
    rwa [List.getElem?_append_left hq, List.getElem?_append_left (by omega)]
  · subst hq
    simp only [List.getD_eq_getElem?_getD]
    rw [List.getElem?_append_right (by omega), List.getElem?_append_right (by omega)]
    simpa [hl] using hv
  · simp only [List.getD_eq_getElem?_getD]
    rw [List.getElem?_eq_none (by simp; omega), List.getElem?_eq_none (by simp; omega)]
    exact .inl ⟨rfl, rfl⟩
theorem EO.one {w : World} {n : Nat} {v : Value} {ds : List D} (h : EO w n v ds) : v.oneCell' = true := by
  rcases h with ⟨rfl, _⟩ | ⟨t, x, rfl, _⟩ <;> rfl
theorem owns_ok {W : World} {base : Nat} {e : TypeId} {size n : Nat} {u : Value} {xs : List Value} (h : W.ownsRow base e size u n xs) : okO u.ownBlock W.heap.size := by
  intro g hg
  rcases h.2 with ⟨rfl, _⟩ | ⟨g', cap, cur, rfl, _, hg', _⟩
  · simp [Value.ownBlock] at hg
  · obtain rfl : g' = g := by simpa [Value.ownBlock] using hg
    exact (Array.getElem?_eq_some_iff.1 hg').1

theorem owns_ge {W : World} {base : Nat} {e : TypeId} {size n : Nat} {u : Value} {xs : List Value} (h : W.ownsRow base e size u n xs) {g : Nat} (hg : u.ownBlock = some g) : base ≤ g := by
  rcases h.2 with ⟨rfl, _⟩ | ⟨g', cap, cur, rfl, hb, _⟩
  · simp [Value.ownBlock] at hg
  · obtain rfl : g' = g := by simpa [Value.ownBlock] using hg
    exact hb
theorem owns_below {W W1 : World} {base : Nat} {e : TypeId} {size n : Nat} {u : Value} {xs : List Value} (h : W.ownsRow base e size u n xs) (hb : Below W.heap.size W W1) : W1.ownsRow base e size u n xs :=
  h.kept (grown_of_below hb none) (by rcases h.2 with ⟨rfl, _⟩ | ⟨g, cap, cur, rfl, _⟩ <;> simp [Value.ownBlock])

theorem cells4 {W : World} {b : Nat} {k x y z : Value} {T : TypeId} (h : W.heap[b]? = some (.cells #[k, x, y, z] T (0, 0))) : W.cell? ⟨b, 1, none⟩ = some x ∧ W.cell? ⟨b, 2, none⟩ = some y ∧ W.cell? ⟨b, 3, none⟩ = some z := by
  simp [World.cell?, h]

theorem join2_at {w0 w : World} {n b : Nat} {v1 v2 : Value} {d1 d2 : List D} (o : Option Nat) (hb : w0.heap.size = b) (ho : okO o w0.heap.size) (h1 : EO (veil o w0) n v1 d1) (h2 : EO (veil o w0) n v2 d2) (hw : w0.alloc (.cells #[v1, v2] 34) = w) :
    Calls Tryd.prog 22 #[.slice (some ⟨b, 0, none⟩) 2 2] w fun e w' => ∃ v', e = .returned v' ∧ EO (veil o w') (n + 1) v' (d1 ++ d2) ∧ Below w0.heap.size w0 w' := by
  subst hb
  exact join2_veil o ho h1 h2 hw

/-- What a round of made leaves behind. -/
theorem made_round {w wr w2 w3 : World} {n : Nat} {u u' v : Value} {vs : List Value} {gs : List (List D)} {d : List D} (ho : wr.ownsRow w.heap.size 34 1 u vs.length vs) (hp : Pairs (veil u.ownBlock wr) n vs gs) (hl : vs.length = gs.length)
    (hb : Below w.heap.size w wr) (b2 : Below wr.heap.size wr w2) (ev : EO (veil u.ownBlock w2) (n + 1) v d) (hg : (w2.alloc (.cells #[v] 34)).grownBy w3 u.ownBlock) (hq : u'.ownBlock = u.ownBlock ∨ u'.ownBlock = some (w2.heap.size + 1)) :
    Pairs (veil u'.ownBlock w3) (n + 1) (vs ++ [v]) (gs ++ [d]) ∧ Below w.heap.size w w3 := by
  have ba : Below w2.heap.size w2 (w2.alloc (.cells #[v] 34)) := (Below.refl _ _).alloc (Nat.le_refl _) _
  have hq' : u'.ownBlock = u.ownBlock ∨ u'.ownBlock = some (w2.alloc (.cells #[v] 34)).heap.size := by simpa using hq
  refine ⟨Pairs.snoc (fun q => ?_) hl ((ev.veil_below ba).veil_grow hg hq'), ?_⟩
  · exact (((hp q).deeper (Nat.le_succ n)).veil_below (b2.trans (ba.mono b2.size))).veil_grow hg hq'
  · have h2 := hb.trans (b2.mono hb.size)
    exact (h2.alloc h2.size _).grown hg (by have := h2.size; simp; omega) (fun k e => owns_ge ho e)

set_option maxRecDepth 100000 in
set_option maxHeartbeats 4000000 in
theorem made_any (u0 : Value) (ds : List Do4) (w : World) (h0 : SDo w u0 ds) (hd : ds.length ≤ 9) :
    Calls Tryd.prog 10 #[u0] w fun e W' => ∃ u vs, e = .returned u ∧ W'.ownsRow w.heap.size 34 1 u vs.length vs ∧ vs.length = ds.length ∧ Pairs W' 10 vs (genD [] ds) ∧ Below w.heap.size w W' := by
  obtain ⟨a, cap, rfl, hc⟩ := h0
  have HC := Lib.hid hc
  clear hc
  go_enter Tryd.func10, Tryd.ntmps10
  go_wp2_with fail
  go_loopw [3, 4] (fun u i wr => ∃ (j : Nat) (vs : List Value), j ≤ ds.length ∧ i = .int .i64 j ∧ vs.length = j ∧ wr.ownsRow w.heap.size 34 1 u vs.length vs ∧ Pairs (veil u.ownBlock wr) (j + 1) vs (genD [] (ds.take j)) ∧ Below w.heap.size w wr) (fun _ i _ => ds.length - (intOf i).toNat)
  case atStart => exact ⟨0, [], Nat.zero_le _, rfl, rfl, World.ownsRow_nil _ _ _ _, fun q => .inl ⟨by simp, by simp [genD]⟩, Below.refl _ _⟩
  case round =>
    obtain ⟨j, vs, hj, rfl, hvl, hown, hp, hb⟩ := hrel
    have HO := Lib.hid hown
    have HP := Lib.hid hp
    clear hown hp
    by_cases hlt : j < ds.length
    · obtain ⟨⟨k, x, y, z⟩, hp1⟩ : ∃ p, ds[j]? = some p := ⟨ds[j], List.getElem?_eq_getElem hlt⟩
      obtain ⟨g, off, rfl, c0, c1, c2, c3⟩ := HC.out j _ hp1
      have hs := World.block_lt_of_cell? w _ c0
      simp only at hs c0 c1 c2 c3
      have e0 : wr.cell? ⟨g, off + j * 4, none⟩ = some (.int .i64 k) := (hb.cell hs).trans c0
      have e1 : wr.cell? ⟨g, off + j * 4 + 1, none⟩ = some (.int .i64 x) := (hb.cell (p := ⟨g, off + j * 4 + 1, none⟩) hs).trans c1
      have e2 : wr.cell? ⟨g, off + j * 4 + 2, none⟩ = some (.int .i64 y) := (hb.cell (p := ⟨g, off + j * 4 + 2, none⟩) hs).trans c2
      have e3 : wr.cell? ⟨g, off + j * 4 + 3, none⟩ = some (.int .i64 z) := (hb.cell (p := ⟨g, off + j * 4 + 3, none⟩) hs).trans c3
      have htk : ds.take (j + 1) = ds.take j ++ [(k, x, y, z)] := by rw [List.take_add_one, hp1]; rfl
      have HT := Lib.hid htk
      clear c0 c1 c2 c3 hp1 htk
      by_cases hk1 : k = 1
      · subst hk1
        have okA := Lib.hid (show okO u3.ownBlock (wr.alloc (.cells #[.int .i64 1, .int .i64 x, .int .i64 y, .int .i64 z] 54)).heap.size from fun g' e => by have := owns_ok HO.out g' e; simp; omega)
        have HS : Hid (stepD (genD [] (ds.take j)) (1, x, y, z) = told x y z) := by show _ = _; simp [stepD]
        go_wp2_with fail
        refine (new_veil x y z _ u3.ownBlock okA.out).mono ?_
        rintro e w2 ⟨v, rfl, ev, b2⟩
        have B2 := Lib.hid (((Below.refl _ wr).alloc (Nat.le_refl _) (.cells #[.int .i64 1, .int .i64 x, .int .i64 y, .int .i64 z] 54)).trans (b2.mono (by simp)))
        have EV := Lib.hid ev
        clear b2 ev
        have hbs := bs24_one EV.out
        have hown2 := owns_below HO.out B2.out
        obtain ⟨u', w3, hk, hown', hgrow, hq⟩ := app24_own hown2 (Nat.le_trans hb.size B2.out.size) (by omega) v EV.out.one
        obtain ⟨hP, hB⟩ := made_round HO.out HP.out (by rw [genD_length, hvl]; simp; omega) hb B2.out (EV.out.deeper (by omega)) hgrow hq
        have HO' := Lib.hid hown'
        have HP' := Lib.hid hP
        clear hown' hP hgrow hq hown2
        go_wp2_with fail
        go_roundw
        case rel => exact ⟨j + 1, vs ++ [v], by omega, by go_num, by simp [hvl], HO'.out, by rw [HT.out, genD_snoc, HS.out]; exact HP'.out, hB⟩
        case measure => simp [intOf]; omega
      · by_cases hk2 : k = 2
        · subst hk2
          have okA := Lib.hid (show okO u3.ownBlock (wr.alloc (.cells #[.int .i64 2, .int .i64 x, .int .i64 y, .int .i64 z] 54)).drew.heap.size from fun g' e => by have := owns_ok HO.out g' e; simp; omega)
          have bA : Below wr.heap.size wr (wr.alloc (.cells #[.int .i64 2, .int .i64 x, .int .i64 y, .int .i64 z] 54)).drew := ((Below.refl _ wr).alloc (Nat.le_refl _) _).drew
          have BA := Lib.hid bA
          have K1 : Hid ((wr.alloc (.cells #[.int .i64 2, .int .i64 x, .int .i64 y, .int .i64 z] 54)).drew.heap[wr.heap.size]? = some (.cells #[.int .i64 2, .int .i64 x, .int .i64 y, .int .i64 z] 54 (0, 0))) := heap_alloc_new wr _
          have HC1 := Lib.hid (Cells1.of_owns (owns_below HO.out bA))
          have HW : Hid (wr.heap.size < (wr.alloc (.cells #[.int .i64 2, .int .i64 x, .int .i64 y, .int .i64 z] 54)).drew.heap.size) := by show _ < _; simp
          have E1 := Lib.hid ((HP.out.at x).veil_below bA)
          have E2 := Lib.hid ((HP.out.at y).veil_below bA)
          clear bA
          generalize hm1 : atZ .nilIface vs x = m1 at E1
          generalize hm2 : atZ .nilIface vs y = m2 at E2
          have HM1 := Lib.hid hm1
          have HM2 := Lib.hid hm2
          clear hm1 hm2
          have HS : Hid (stepD (genD [] (ds.take j)) (2, x, y, z) = (atZ [] (genD [] (ds.take j)) x).map (mv y z)) := by show _ = _; simp [stepD]
          go_wp2_with fail
          go_region_held3 (fun w' => w'.cell? ⟨wr.heap.size, 1, none⟩ = some (.int .i64 x) ∧ w'.cell? ⟨wr.heap.size, 2, none⟩ = some (.int .i64 y) ∧ w'.cell? ⟨wr.heap.size, 3, none⟩ = some (.int .i64 z))
              (first
                | assumption
                | exact cells4 K1.out
                | exact cells4 K2.out
                | exact cells4 K2a.out
                | exact cells4 K3.out
                | go_keep)
              ((first
                | (go_at_call 25; (with_reducible refine (at_any u3 vs x _ HC1.out).mono ?_); rintro e w' ⟨rfl, rfl⟩; rw [HM1.out])
                | (go_at_call 21; (with_reducible refine (move_veil u3.ownBlock okA.out E1.out y z).mono ?_); rintro e w2 ⟨v, rfl, ev, b2⟩; have hz2 := b2.size; have B2 := Lib.hid (BA.out.trans (b2.mono BA.out.size)); have K2 := Lib.hid ((b2.block _ HW.out).trans K1.out); have EV := Lib.hid ev; clear b2 ev; have hbs := bs24_one EV.out; have hown2 := owns_below HO.out B2.out; obtain ⟨u', w3, hk, hown', hgrow, hq⟩ := app24_own hown2 (Nat.le_trans hb.size B2.out.size) (by omega) v EV.out.one; obtain ⟨hP, hB⟩ := made_round HO.out HP.out (by rw [genD_length, hvl]; simp; omega) hb B2.out EV.out hgrow hq; have K2a := Lib.hid ((Below.heap_alloc w2 (.cells #[v] 34) _ (Nat.lt_of_lt_of_le HW.out hz2)).trans K2.out); have K3 := Lib.hid ((hgrow.block _ (by have := HW.out; simp only [World.size_alloc]; omega) (fun e => by have := owns_ok HO.out _ e.symm; omega)).trans K2a.out); have HO' := Lib.hid hown'; have HP' := Lib.hid hP; clear hown' hP hgrow hq hown2)))
          go_wp2
          go_roundw
          case rel => exact ⟨j + 1, vs ++ [v], by omega, by go_num, by simp [hvl], HO'.out, by rw [HT.out, genD_snoc, HS.out]; exact HP'.out, hB⟩
          case measure => simp [intOf]; omega

        · have hk1' : (k == 1) = false := by simpa using hk1
          have hk2' : (k == 2) = false := by simpa using hk2
          have hbs2 := fun (m1 m2 : Value) (d1 d2 : List D) (w1 : World) (n1 : Nat) (h1 : EO w1 n1 m1 d1) (h2 : EO w1 n1 m2 d2) => bs24_two h1 h2
          have HB2 := Lib.hid hbs2
          clear hbs2
          have okA := Lib.hid (show okO u3.ownBlock (wr.alloc (.cells #[.int .i64 k, .int .i64 x, .int .i64 y, .int .i64 z] 54)).drew.heap.size from fun g' e => by have := owns_ok HO.out g' e; simp; omega)
          have bA : Below wr.heap.size wr (wr.alloc (.cells #[.int .i64 k, .int .i64 x, .int .i64 y, .int .i64 z] 54)).drew := ((Below.refl _ wr).alloc (Nat.le_refl _) _).drew
          have BA := Lib.hid bA
          have K1 : Hid ((wr.alloc (.cells #[.int .i64 k, .int .i64 x, .int .i64 y, .int .i64 z] 54)).drew.heap[wr.heap.size]? = some (.cells #[.int .i64 k, .int .i64 x, .int .i64 y, .int .i64 z] 54 (0, 0))) := heap_alloc_new wr _
          have HC1 := Lib.hid (Cells1.of_owns (owns_below HO.out bA))
          have HW : Hid (wr.heap.size < (wr.alloc (.cells #[.int .i64 k, .int .i64 x, .int .i64 y, .int .i64 z] 54)).drew.heap.size) := by show _ < _; simp
          have E1 := Lib.hid ((HP.out.at x).veil_below bA)
          have E2 := Lib.hid ((HP.out.at y).veil_below bA)
          clear bA
          generalize hm1 : atZ .nilIface vs x = m1 at E1
          generalize hm2 : atZ .nilIface vs y = m2 at E2
          have HM1 := Lib.hid hm1
          have HM2 := Lib.hid hm2
          clear hm1 hm2
          have HS : Hid (stepD (genD [] (ds.take j)) (k, x, y, z) = atZ [] (genD [] (ds.take j)) x ++ atZ [] (genD [] (ds.take j)) y) := by show _ = _; simp [stepD, hk1, hk2]
          have hb2 := HB2.out _ _ _ _ _ _ E1.out E2.out
          go_wp2_with fail
          have HZ1 : Hid ((wr.alloc (.cells #[.int .i64 k, .int .i64 x, .int .i64 y, .int .i64 z] 54)).drew.heap.size = wr.heap.size + 1) := by show _ = _; simp
          go_region_held3 (fun w' => w'.cell? ⟨wr.heap.size, 1, none⟩ = some (.int .i64 x) ∧ w'.cell? ⟨wr.heap.size, 2, none⟩ = some (.int .i64 y) ∧ w'.cell? ⟨wr.heap.size, 3, none⟩ = some (.int .i64 z))
              (first
                | assumption
                | exact cells4 K1.out
                | exact cells4 ((Below.heap_alloc _ _ _ HW.out).trans K1.out)
                | exact cells4 K2.out
                | exact cells4 K2a.out
                | exact cells4 K3.out
                | go_keep)
              ((first
                | (go_at_call 25; (with_reducible refine (at_any u3 vs x _ HC1.out).mono ?_); rintro e w' ⟨rfl, rfl⟩; rw [HM1.out])
                | (go_at_call 25; (with_reducible refine (at_any u3 vs y _ HC1.out).mono ?_); rintro e w' ⟨rfl, rfl⟩; rw [HM2.out])
                | (go_at_call 22; refine (join2_at u3.ownBlock HZ1.out okA.out E1.out E2.out rfl).mono ?_; rintro e w2 ⟨v, rfl, ev, b2⟩; have hz2 := b2.size; have B2 := Lib.hid (BA.out.trans (b2.mono BA.out.size)); have K2 := Lib.hid ((b2.block _ HW.out).trans K1.out); have EV := Lib.hid ev; clear b2 ev; have hbs := bs24_one EV.out; have hown2 := owns_below HO.out B2.out; obtain ⟨u', w3, hk, hown', hgrow, hq⟩ := app24_own hown2 (Nat.le_trans hb.size B2.out.size) (by omega) v EV.out.one; obtain ⟨hP, hB⟩ := made_round HO.out HP.out (by rw [genD_length, hvl]; simp; omega) hb B2.out EV.out hgrow hq; have K2a := Lib.hid ((Below.heap_alloc w2 (.cells #[v] 34) _ (Nat.lt_of_lt_of_le HW.out hz2)).trans K2.out); have K3 := Lib.hid ((hgrow.block _ (by have := HW.out; simp only [World.size_alloc]; omega) (fun e => by have := owns_ok HO.out _ e.symm; omega)).trans K2a.out); have HO' := Lib.hid hown'; have HP' := Lib.hid hP; clear hown' hP hgrow hq hown2)))
          go_wp2
          go_roundw
          case rel => exact ⟨j + 1, vs ++ [v], by omega, by go_num, by simp [hvl], HO'.out, by rw [HT.out, genD_snoc, HS.out]; exact HP'.out, hB⟩
          case measure => simp [intOf]; omega
    · obtain rfl : j = ds.length := by omega
      have HP' : Hid (Pairs wr 10 vs (genD [] ds)) := fun q => by
        have := HP.out q
        rw [List.take_length] at this
        exact this.unveil.deeper (by omega)
      go_wp2_with fail
      go_ret
      exact ⟨_, vs, rfl, HO.out, hvl, HP'.out, hb⟩
end Go.Proofs.YtalopkplpbdgjaaDoor
