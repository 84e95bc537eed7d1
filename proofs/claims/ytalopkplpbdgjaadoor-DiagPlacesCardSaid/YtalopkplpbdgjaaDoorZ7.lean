/- The document's Make: the lists that genD says. -/
import Derived.Test.YtalopkplpbdgjaaDoorZ6
namespace Go.Proofs.YtalopkplpbdgjaaDoor
open Go.RowKit Go.Shelf Go.Extern.Stop Go.Stop Go.Extern

attribute [local go_sem ↓ high] builtin_app30
attribute [local go_sem ↓ high] builtin_app26

theorem SDiag.veil_of {W : World} {o : Option Nat} {v : Value} {ds : List D} (h : SDiag W v ds) (hb : ∀ g, v.ownBlock = some g → o ≠ some g) : SDiag (veil o W) v ds := by
  obtain ⟨a, cap, rfl, hk⟩ := h
  refine ⟨a, cap, rfl, fun j d hj => ?_⟩
  obtain ⟨g, off, rfl, h0, h1, h2⟩ := hk j d hj
  have hg := hb g rfl
  exact ⟨g, off, rfl, veil_cell.2 ⟨hg, h0⟩, veil_cell.2 ⟨hg, h1⟩, veil_cell.2 ⟨hg, h2⟩⟩
theorem SDiag.new {W : World} {b : Nat} {d : D} (h : W.heap[b]? = some (.cells #[.int .i64 d.1, .int .i64 d.2.1, .int .i64 d.2.2] 29 (0, 0))) : SDiag W (.slice (some ⟨b, 0, none⟩) 1 1) [d] := by
  refine ⟨_, 1, rfl, fun j e hj => ?_⟩
  match j, hj with
  | 0, hj =>
    simp at hj
    subst hj
    exact ⟨b, 0, rfl, by simp [World.cell?, h], by simp [World.cell?, h], by simp [World.cell?, h]⟩

/-- What a round of Make leaves behind. -/
theorem make_round {w wr w2 w3 : World} {u u' v : Value} {us : List Value} {gs : List (List D)} {d : List D} (ho : wr.ownsRow w.heap.size 30 1 u us.length us) (hp : SPairs (veil u.ownBlock wr) us gs) (hl : us.length = gs.length)
    (hb : Below w.heap.size w wr) (b2 : Below wr.heap.size wr w2) (ev : SDiag (veil u.ownBlock w2) v d) (hg : (w2.alloc (.cells #[v] 30)).grownBy w3 u.ownBlock) (hq : u'.ownBlock = u.ownBlock ∨ u'.ownBlock = some (w2.heap.size + 1)) :
    SPairs (veil u'.ownBlock w3) (us ++ [v]) (gs ++ [d]) ∧ Below w.heap.size w w3 := by
  have ba : Below w2.heap.size w2 (w2.alloc (.cells #[v] 30)) := (Below.refl _ _).alloc (Nat.le_refl _) _
  have hq' : u'.ownBlock = u.ownBlock ∨ u'.ownBlock = some (w2.alloc (.cells #[v] 30)).heap.size := by simpa using hq
  refine ⟨SPairs.snoc (fun q => ?_) hl ((ev.veil_below ba).veil_grow hg hq'), ?_⟩
  · exact ((hp q).veil_below (b2.trans (ba.mono b2.size))).veil_grow hg hq'
  · have h2 := hb.trans (b2.mono hb.size)
    exact (h2.alloc h2.size _).grown hg (by have := h2.size; simp; omega) (fun k e => owns_ge ho e)

set_option maxRecDepth 100000 in
set_option maxHeartbeats 4000000 in
theorem make_any (u0 : Value) (ds : List Do4) (w : World) (h0 : SDo w u0 ds) (hd : ds.length ≤ 9) :
    Calls Tryd.prog 11 #[u0] w fun e W' => ∃ u us, e = .returned u ∧ W'.ownsRow w.heap.size 30 1 u us.length us ∧ us.length = ds.length ∧ SPairs W' us (genD [] ds) ∧ Below w.heap.size w W' := by
  obtain ⟨a, cap, rfl, hc⟩ := h0
  have HC := Lib.hid hc
  clear hc
  go_enter Tryd.func11, Tryd.ntmps11
  go_wp2_with fail
  go_loopw [3, 4] (fun u i wr => ∃ (j : Nat) (us : List Value), j ≤ ds.length ∧ i = .int .i64 j ∧ us.length = j ∧ wr.ownsRow w.heap.size 30 1 u us.length us ∧ SPairs (veil u.ownBlock wr) us (genD [] (ds.take j)) ∧ Below w.heap.size w wr) (fun _ i _ => ds.length - (intOf i).toNat)
  case atStart => exact ⟨0, [], Nat.zero_le _, rfl, rfl, World.ownsRow_nil _ _ _ _, fun q => by simpa [genD] using SDiag.nil _, Below.refl _ _⟩
  case round =>
    obtain ⟨j, us, hj, rfl, hvl, hown, hp, hb⟩ := hrel
    have HO := Lib.hid hown
    have HP := Lib.hid hp
    clear hown hp
    by_cases hlt : j < ds.length
    · obtain ⟨⟨k, x, y, z⟩, hp1⟩ : ∃ p, ds[j]? = some p := ⟨ds[j], List.getElem?_eq_getElem hlt⟩
      obtain ⟨g, off, rfl, c0, c1, c2, c3⟩ := HC.out j _ hp1
      have hs := World.block_lt_of_cell? w _ c0
      simp only at hs c0 c1 c2 c3
      have e0 : wr.cell? ⟨g, off + j * 4, none⟩ = some (.int .i64 k) := (hb.cell hs).trans c0
      have e1 : wr.cell? ⟨g, off + j * 4 + 1, none⟩ = some (.int .i64 x) := (hb.cell (p := ⟨g, off + j * 4 + 1, none⟩) hs).trans c1
      have e2 : wr.cell? ⟨g, off + j * 4 + 2, none⟩ = some (.int .i64 y) := (hb.cell (p := ⟨g, off + j * 4 + 2, none⟩) hs).trans c2
      have e3 : wr.cell? ⟨g, off + j * 4 + 3, none⟩ = some (.int .i64 z) := (hb.cell (p := ⟨g, off + j * 4 + 3, none⟩) hs).trans c3
      have htk : ds.take (j + 1) = ds.take j ++ [(k, x, y, z)] := by rw [List.take_add_one, hp1]; rfl
      have hgl : us.length = (genD [] (ds.take j)).length := by rw [genD_length, hvl]; simp; omega
      have HT := Lib.hid htk
      have HL := Lib.hid hgl
      have HJ : Hid (us.length < 1000) := by show us.length < 1000; omega
      clear c0 c1 c2 c3 hp1 htk hgl
      by_cases hk1 : k = 1
      · subst hk1
        have bA : Below wr.heap.size wr (wr.alloc (.cells #[.int .i64 1, .int .i64 x, .int .i64 y, .int .i64 z] 54)) := (Below.refl _ wr).alloc (Nat.le_refl _) _
        have BA := Lib.hid bA
        clear bA
        by_cases hx : x = 0
        · subst hx
          have HS : Hid (stepD (genD [] (ds.take j)) (1, 0, y, z) = []) := by show _ = _; simp [stepD, told]
          have hown2 := owns_below HO.out BA.out
          obtain ⟨u', w3, hk, hown', hgrow, hq⟩ := app26_own hown2 (Nat.le_trans hb.size BA.out.size) HJ.out (.slice none 0 0) rfl
          obtain ⟨hP, hB⟩ := make_round (d := []) HO.out HP.out HL.out hb BA.out (SDiag.nil _) hgrow hq
          have HO' := Lib.hid hown'
          have HP' := Lib.hid hP
          clear hown' hP hgrow hq hown2
          simp only [World.size_alloc] at hk
          go_wp2_with fail
          go_roundw
          case rel => exact ⟨j + 1, us ++ [_], by omega, by go_num, by simp [hvl], HO'.out, by rw [HT.out, genD_snoc, HS.out]; exact HP'.out, hB⟩
          case measure => simp [intOf]; omega
        · have hx1 : (x == 0) = false := by simpa using hx
          have HS : Hid (stepD (genD [] (ds.take j)) (1, x, y, z) = [(x, clip y, clip z)]) := by show _ = _; simp [stepD, told, hx]
          have b2 : Below wr.heap.size wr ((wr.alloc (.cells #[.int .i64 1, .int .i64 x, .int .i64 y, .int .i64 z] 54)).alloc (.cells #[.int .i64 x, .int .i64 (clip y), .int .i64 (clip z)] 29)).drew := ((BA.out).alloc BA.out.size _).drew
          have B2 := Lib.hid b2
          have hown2 := owns_below HO.out b2
          have hnew : ((wr.alloc (.cells #[.int .i64 1, .int .i64 x, .int .i64 y, .int .i64 z] 54)).alloc (.cells #[.int .i64 x, .int .i64 (clip y), .int .i64 (clip z)] 29)).drew.heap[wr.heap.size + 1]? = some (.cells #[.int .i64 x, .int .i64 (clip y), .int .i64 (clip z)] 29 (0, 0)) := by
            have := heap_alloc_new (wr.alloc (.cells #[.int .i64 1, .int .i64 x, .int .i64 y, .int .i64 z] 54)) (.cells #[.int .i64 x, .int .i64 (clip y), .int .i64 (clip z)] 29)
            rwa [World.size_alloc] at this
          have hsd : SDiag (veil u3.ownBlock ((wr.alloc (.cells #[.int .i64 1, .int .i64 x, .int .i64 y, .int .i64 z] 54)).alloc (.cells #[.int .i64 x, .int .i64 (clip y), .int .i64 (clip z)] 29)).drew) (.slice (some ⟨wr.heap.size + 1, 0, none⟩) 1 1) [(x, clip y, clip z)] :=
            (SDiag.new (d := (x, clip y, clip z)) hnew).veil_of (fun g' e e' => by
              have := owns_ok HO.out g' e'
              simp [Value.ownBlock] at e
              omega)
          obtain ⟨u', w3, hk, hown', hgrow, hq⟩ := app26_own hown2 (Nat.le_trans hb.size B2.out.size) HJ.out (.slice (some ⟨wr.heap.size + 1, 0, none⟩) 1 1) rfl
          obtain ⟨hP, hB⟩ := make_round HO.out HP.out HL.out hb B2.out hsd hgrow hq
          have HO' := Lib.hid hown'
          have HP' := Lib.hid hP
          have K1 : Hid ((wr.alloc (.cells #[.int .i64 1, .int .i64 x, .int .i64 y, .int .i64 z] 54)).drew.heap[wr.heap.size]? = some (.cells #[.int .i64 1, .int .i64 x, .int .i64 y, .int .i64 z] 54 (0, 0))) := heap_alloc_new wr _
          clear hown' hP hgrow hq hown2 hnew hsd b2
          have hk2 : (app26 #[u3, .slice (some ⟨wr.heap.size + 1 + 1, 0, none⟩) 1 1]).run Tryd.prog ((((wr.alloc (.cells #[.int .i64 1, .int .i64 x, .int .i64 y, .int .i64 z] 54)).alloc (.cells #[.int .i64 x, .int .i64 (clip y), .int .i64 (clip z)] 29)).alloc (.cells #[.slice (some ⟨wr.heap.size + 1, 0, none⟩) 1 1] 30)).drew) = .ok (.value u') w3 := by
            have e : ((wr.alloc (.cells #[.int .i64 1, .int .i64 x, .int .i64 y, .int .i64 z] 54)).alloc (.cells #[.int .i64 x, .int .i64 (clip y), .int .i64 (clip z)] 29)).drew.heap.size = wr.heap.size + 1 + 1 := by simp
            rw [e] at hk
            exact hk
          clear hk
          go_wp2_with fail
          go_region_held3 (fun w' => w'.cell? ⟨wr.heap.size, 1, none⟩ = some (.int .i64 x) ∧ w'.cell? ⟨wr.heap.size, 2, none⟩ = some (.int .i64 y) ∧ w'.cell? ⟨wr.heap.size, 3, none⟩ = some (.int .i64 z))
              (first
                | assumption
                | exact cells4 K1.out
                | exact cells4 ((Below.heap_alloc _ _ _ (by simp)).trans K1.out)
                | go_keep)
              ((first
                | (go_at_call 20; (with_reducible refine (refclip_any y _).mono ?_); rintro e w' ⟨rfl, rfl⟩)
                | (go_at_call 20; (with_reducible refine (refclip_any z _).mono ?_); rintro e w' ⟨rfl, rfl⟩)))
          go_wp2_with fail
          go_roundw
          case rel => exact ⟨j + 1, us ++ [_], by omega, by go_num, by simp [hvl], HO'.out, by rw [HT.out, genD_snoc, HS.out]; exact HP'.out, hB⟩
          case measure => simp [intOf]; omega
      · by_cases hk2 : k = 2
        · subst hk2
          obtain ⟨wo, hwo⟩ : ∃ wo : World, wo = wr := ⟨wr, rfl⟩
          subst hwo
          have HS : Hid (stepD (genD [] (ds.take j)) (2, x, y, z) = (atZ [] (genD [] (ds.take j)) x).map (mv y z)) := by show _ = _; simp [stepD]
          have bA : Below wo.heap.size wo (wo.alloc (.cells #[.int .i64 2, .int .i64 x, .int .i64 y, .int .i64 z] 54)) := (Below.refl _ wo).alloc (Nat.le_refl _) _
          have BA := Lib.hid bA
          have HC1 := Lib.hid (Cells1.of_owns (owns_below HO.out bA))
          have L1 := Lib.hid ((genD_small (ds.take j) (by rw [List.length_take]; omega)).at x)
          have P1 := Lib.hid (((HP.out.at x).veil_below bA).unveil)
          have HNo : Hid (∀ g', wo.heap.size ≤ g' → u3.ownBlock ≠ some g') := fun g' h e => by have := owns_ok HO.out g' e; omega
          clear bA
          generalize hm1 : atZ (.slice none 0 0) us x = m1 at P1
          have HM1 := Lib.hid hm1
          clear hm1
          generalize hLs : atZ [] (genD [] (ds.take j)) x = Ls at HS L1 P1
          obtain ⟨al, cl, rfl, hPc⟩ := id P1.out
          have HPc := Lib.hid hPc
          have hA : (wo.alloc (.cells #[.int .i64 2, .int .i64 x, .int .i64 y, .int .i64 z] 54)).heap[wo.heap.size]? = some (.cells #[.int .i64 2, .int .i64 x, .int .i64 y, .int .i64 z] 54 (0, 0)) := heap_alloc_new wo _
          have HA := Lib.hid hA
          clear hPc hLs hA P1
          go_wp2_with fail
          obtain ⟨WA, hWA⟩ : ∃ WA, wo.alloc (.cells #[.int .i64 2, .int .i64 x, .int .i64 y, .int .i64 z] 54) = WA := ⟨_, rfl⟩
          have hszA : WA.heap.size = wo.heap.size + 1 := by rw [← hWA]; simp
          rw [hWA] at BA HC1 HPc HA ⊢
          refine (refat_any u3 us x _ HC1.out).mono ?_
          rintro e w' ⟨rfl, rfl⟩
          rw [HM1.out]
          go_wp2_with fail
          go_loopw [6, 8] (fun xv i wr => ∃ q : Nat, q ≤ Ls.length ∧ i = .int .i64 q ∧ wr.ownsRow w'.heap.size 29 3 xv ((Ls.take q).map (mv y z)).length (dcells ((Ls.take q).map (mv y z))) ∧ Below w'.heap.size w' wr) (fun _ i _ => Ls.length - (intOf i).toNat)
          case atStart => exact ⟨0, Nat.zero_le _, rfl, World.ownsRow_nil _ _ _ _, Below.refl _ _⟩
          case round =>
            obtain ⟨q, hq, rfl, hox, hbi⟩ := hrel
            by_cases hltq : q < Ls.length
            · obtain ⟨⟨kq, lq, cq⟩, hd1⟩ : ∃ d, Ls[q]? = some d := ⟨Ls[q], List.getElem?_eq_getElem hltq⟩
              obtain ⟨gl, ol, rfl, p0, p1, p2⟩ := HPc.out q _ hd1
              obtain ⟨n0, n1, n2, n3⟩ := L1.out.2 (kq, lq, cq) (List.mem_of_getElem? hd1)
              have hgl := World.block_lt_of_cell? w' _ p0
              simp only at n0 n1 n2 n3 hgl p0 p1 p2
              obtain ⟨_, r2, r3⟩ := cells4 HA.out
              have SOf : Hid (∀ W', Below w'.heap.size w' W' → (W'.cell? ⟨gl, ol + q * 3, none⟩ = some (.int .i64 kq) ∧ W'.cell? ⟨gl, ol + q * 3 + 1, none⟩ = some (.int .i64 lq) ∧ W'.cell? ⟨gl, ol + q * 3 + 2, none⟩ = some (.int .i64 cq) ∧ W'.cell? ⟨wo.heap.size, 2, none⟩ = some (.int .i64 y) ∧ W'.cell? ⟨wo.heap.size, 3, none⟩ = some (.int .i64 z))) := fun W' hb' =>
                ⟨(hb'.cell (p := ⟨gl, ol + q * 3, none⟩) hgl).trans p0, (hb'.cell (p := ⟨gl, ol + q * 3 + 1, none⟩) hgl).trans p1, (hb'.cell (p := ⟨gl, ol + q * 3 + 2, none⟩) hgl).trans p2, (hb'.cell (p := ⟨wo.heap.size, 2, none⟩) (by simp only; omega)).trans r2, (hb'.cell (p := ⟨wo.heap.size, 3, none⟩) (by simp only; omega)).trans r3⟩
              have bW1 := Lib.hid (hbi.drew)
              have bW2 := Lib.hid ((hbi.alloc hbi.size (.cells #[.int .i64 kq, .int .i64 (clip (lq + short y)), .int .i64 (clip (cq + short z))] 29)).drew)
              have hsd : SDiag (wr.alloc (.cells #[.int .i64 kq, .int .i64 (clip (lq + short y)), .int .i64 (clip (cq + short z))] 29)).drew (.slice (some ⟨wr.heap.size, 0, none⟩) 1 1) [mv y z (kq, lq, cq)] := SDiag.new (d := mv y z (kq, lq, cq)) (heap_alloc_new wr _)
              have htq : (Ls.take (q + 1)).map (mv y z) = (Ls.take q).map (mv y z) ++ [mv y z (kq, lq, cq)] := by rw [List.take_add_one, hd1]; simp
              obtain ⟨x', w3, hk, hown', hgrow, _⟩ := app30_own (owns_below hox ((Below.refl _ wr).alloc (Nat.le_refl _) (.cells #[.int .i64 kq, .int .i64 (clip (lq + short y)), .int .i64 (clip (cq + short z))] 29)).drew) hsd bW2.out.size (by have := L1.out.1; simp; omega)
              have bW3 := Lib.hid (bW2.out.grown hgrow bW2.out.size (fun g' e => owns_ge hox e))
              rw [← htq] at hown'
              have HX := Lib.hid hown'
              have h512 : Ls.length ≤ 512 := L1.out.1
              have hi : (q : Int) < (Ls.length : Int) := by omega
              have hi0 : (0 : Int) ≤ (q : Int) := by omega
              have N1 : Hid (0 ≤ lq ∧ lq ≤ 1099511627775) := ⟨n0, n1⟩
              have N2 : Hid (0 ≤ cq ∧ cq ≤ 1099511627775) := ⟨n2, n3⟩
              clear hown' hgrow hsd htq hox hbi p0 p1 p2 r2 r3 hd1 n0 n1 n2 n3
              go_wp2_with fail
              go_region_held3 (fun W' => W'.cell? ⟨gl, ol + q * 3, none⟩ = some (.int .i64 kq) ∧ W'.cell? ⟨gl, ol + q * 3 + 1, none⟩ = some (.int .i64 lq) ∧ W'.cell? ⟨gl, ol + q * 3 + 2, none⟩ = some (.int .i64 cq) ∧ W'.cell? ⟨wo.heap.size, 2, none⟩ = some (.int .i64 y) ∧ W'.cell? ⟨wo.heap.size, 3, none⟩ = some (.int .i64 z))
                (first
                  | assumption
                  | exact SOf.out _ bW1.out
                  | exact SOf.out _ bW2.out
                  | exact SOf.out _ bW3.out
                  | go_keep)
                ((first
                  | (go_at_call 27; (with_reducible refine (refadd_any lq y _ N1.out).mono ?_); rintro e w9 ⟨rfl, rfl⟩)
                  | (go_at_call 27; (with_reducible refine (refadd_any cq z _ N2.out).mono ?_); rintro e w9 ⟨rfl, rfl⟩)))
              go_wp2_with fail
              go_roundw
              case rel => exact ⟨q + 1, by omega, by go_num, HX.out, bW3.out⟩
              case measure => simp [intOf]; omega
            · obtain rfl : q = Ls.length := by omega
              rw [List.take_length] at hox
              have B4 := Lib.hid (BA.out.trans (hbi.mono BA.out.size))
              have S4' := (SDiag.of_owns hox).veil_of (fun g' e => HNo.out g' (Nat.le_trans BA.out.size (owns_ge hox e)))
              obtain ⟨ax, cx, ex2, _⟩ := id S4'
              generalize (Ls.map (mv y z)).length = n2 at ex2
              subst ex2
              have S4 := Lib.hid S4'
              clear S4' hox hbi
              obtain ⟨u', w5, hk, hown', hgrow, hq⟩ := app26_own (owns_below HO.out B4.out) (Nat.le_trans hb.size B4.out.size) HJ.out _ S4.out.one
              obtain ⟨hP, hB⟩ := make_round HO.out HP.out HL.out hb B4.out S4.out hgrow hq
              have HO' := Lib.hid hown'
              have HP' := Lib.hid hP
              clear hown' hP hgrow hq
              go_wp2_with fail
              go_roundw
              case rel => exact ⟨j + 1, us ++ [_], by omega, by go_num, by simp [hvl], HO'.out, by rw [HT.out, genD_snoc, HS.out]; exact HP'.out, hB⟩
              case measure => simp [intOf]; omega
        · have hk1' : (k == 1) = false := by simpa using hk1
          have hk2' : (k == 2) = false := by simpa using hk2
          have HS : Hid (stepD (genD [] (ds.take j)) (k, x, y, z) = atZ [] (genD [] (ds.take j)) x ++ atZ [] (genD [] (ds.take j)) y) := by show _ = _; simp [stepD, hk1, hk2]
          have bA : Below wr.heap.size wr (wr.alloc (.cells #[.int .i64 k, .int .i64 x, .int .i64 y, .int .i64 z] 54)) := (Below.refl _ wr).alloc (Nat.le_refl _) _
          have BA := Lib.hid bA
          have HC1 := Lib.hid (Cells1.of_owns (owns_below HO.out bA))
          have hsm := genD_small (ds.take j) (by rw [List.length_take]; omega)
          have L1 := Lib.hid (hsm.at x)
          have L2 := Lib.hid (hsm.at y)
          have P1 := Lib.hid (HP.out.at x)
          have P2 := Lib.hid (HP.out.at y)
          have HNo : Hid (∀ g', wr.heap.size ≤ g' → u3.ownBlock ≠ some g') := fun g' h e => by have := owns_ok HO.out g' e; omega
          clear bA hsm
          generalize hm1 : atZ (.slice none 0 0) us x = m1 at P1
          generalize hm2 : atZ (.slice none 0 0) us y = m2 at P2
          have HM1 := Lib.hid hm1
          have HM2 := Lib.hid hm2
          clear hm1 hm2
          obtain ⟨x1, w2, hr1, ho1, hg1, _⟩ := app30_own (W := wr.alloc (.cells #[.int .i64 k, .int .i64 x, .int .i64 y, .int .i64 z] 54)) (base := wr.heap.size) (ds := []) (World.ownsRow_nil _ _ _ _) (P1.out.veil_below BA.out).unveil (by simp) (by have := L1.out.1; simp; omega)
          have B2 := Lib.hid (BA.out.grown hg1 (by simp) (fun g' e => by simp [Value.ownBlock] at e))
          obtain ⟨x2, w3, hr2, ho2, hg2, _⟩ := app30_own (W := w2) (base := wr.heap.size) ho1 (P2.out.veil_below B2.out).unveil B2.out.size (by have := L1.out.1; have := L2.out.1; simp; omega)
          have B4 := Lib.hid (B2.out.grown hg2 B2.out.size (fun g' e => owns_ge ho1 e))
          have S4' := (SDiag.of_owns ho2).veil_of (fun g' e => HNo.out g' (owns_ge ho2 e))
          rw [List.nil_append] at S4'
          obtain ⟨ax, cx, ex2, _⟩ := id S4'
          generalize (atZ [] (genD [] (ds.take j)) x ++ atZ [] (genD [] (ds.take j)) y).length = n2 at ex2
          subst ex2
          have S4 := Lib.hid S4'
          have HC2 := Lib.hid (Cells1.of_owns (owns_below HO.out B2.out))
          obtain ⟨q1, q2, q3⟩ := cells4 ((hg1.block wr.heap.size (by simp) (fun e => by simp [Value.ownBlock] at e)).trans (heap_alloc_new wr _))
          clear S4' ho1 hg1 ho2 hg2
          obtain ⟨u', w5, hk, hown', hgrow, hq⟩ := app26_own (owns_below HO.out B4.out) (Nat.le_trans hb.size B4.out.size) HJ.out _ S4.out.one
          obtain ⟨hP, hB⟩ := make_round HO.out HP.out HL.out hb B4.out S4.out hgrow hq
          have HO' := Lib.hid hown'
          have HP' := Lib.hid hP
          clear hown' hP hgrow hq
          go_wp2_with fail
          refine (refat_any u3 us x _ HC1.out).mono ?_
          rintro e w' ⟨rfl, rfl⟩
          rw [HM1.out]
          go_wp2_with fail
          refine (refat_any u3 us y _ HC2.out).mono ?_
          rintro e w' ⟨rfl, rfl⟩
          rw [HM2.out]
          go_wp2_with fail
          go_roundw
          case rel => exact ⟨j + 1, us ++ [_], by omega, by go_num, by simp [hvl], HO'.out, by rw [HT.out, genD_snoc, HS.out]; exact HP'.out, hB⟩
          case measure => simp [intOf]; omega
    · obtain rfl : j = ds.length := by omega
      have HP' : Hid (SPairs wr us (genD [] ds)) := fun q => by
        have := HP.out q
        rw [List.take_length] at this
        exact this.unveil
      go_wp2_with fail
      go_ret
      exact ⟨_, us, rfl, HO.out, hvl, HP'.out, hb⟩
end Go.Proofs.YtalopkplpbdgjaaDoor
