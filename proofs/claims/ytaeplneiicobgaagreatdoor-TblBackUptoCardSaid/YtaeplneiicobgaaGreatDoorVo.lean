/- What the laws of tables ask of the package: it is so here. The program's own for tables, printed: a table. -/
import Derived.Test.YtaeplneiicobgaaGreatDoorVk
import Derived.Test.YtaeplneiicobgaaGreatDoorV5
import Derived.Test.YtaeplneiicobgaaGreatDoorV6
import Derived.Test.YtaeplneiicobgaaGreatDoorJK
import Derived.Test.YtaeplneiicobgaaGreatDoorVn
import Derived.Test.YtaeplneiicobgaaGreatDoorQa
import Derived.StillTailTactics
set_option linter.unusedVariables false
set_option linter.unusedSimpArgs false
namespace Go.Proofs.YtaeplneiicobgaaGreatDoor
open Go.RowKit
theorem parse_any9 (line : Int) (L : List Txt) (v : Value) (w : World) (h0 : 0 ≤ line) (h1 : line ≤ 100000) (hU : U8 w) (hS : Ss w v L) (hl : lnT L ≤ 40000) (hL : ∀ s ∈ L, s.length ≤ 2000) :
    Calls Tryz.prog 7 #[.int .i64 line, v] w fun e w' => ∃ (r : PV) (vd : Value), e = .returned (.tuple #[tabV (parseP lgF line L).1 r, vd]) ∧ TrS (fun b => w.heap.size ≤ b ∧ b < w'.heap.size) w' (pv r) (parseP lgF line L).1.rows ∧ DgS w' vd (parseP lgF line L).2 ∧ Below w.heap.size w w' := by
  obtain ⟨a, c, rfl⟩ := hS.len
  refine (callsIn_wide.1 (parse_in9 line L a c w h0 h1 hU hS hl hL)).mono ?_
  rintro e W' ⟨r, vd, rfl, hF⟩
  exact ⟨r, vd, rfl, hF.rows.trs, FOwn.sl edcell_len hF.d, hF.bel⟩
theorem own_al9 {α : Type} {e n : Nat} {f : α → List Value} {W W' : World} {x : Value} {l : List α} (hf : ∀ x, (f x).length = n) (h : FOwn e n f 0 W x l) (hb : Below W.heap.size W W') : FsS (fun b => b < W'.heap.size) n f W' x l :=
  FsS.mono (own_foot hf (h.keep hb)) (fun b ⟨_, cur, fz, q⟩ => (Array.getElem?_eq_some_iff.1 q).1)
theorem want9 (V1 V2 V3 V4 V5 V6 : World) (n : Nat) (c : Array Value) (t : TypeId) (hn : V1.heap.size = n) (h2 : V1.alloc (.cells #[.int .i32 97, .int .u8 0] 43) = V2) (h3 : V2.alloc (.cells #[.int .i32 98, .int .u8 0] 43) = V3)
    (h4 : V3.alloc (.cells #[.slice (some ⟨n, 0, none⟩) 1 1, .slice (some ⟨n + 1, 0, none⟩) 1 1] 26) = V4) (h5 : V4.alloc (.cells #[.bool false, .slice (some ⟨n + 2, 0, none⟩) 2 2] 41) = V5) (h6 : V5.alloc (.cells c t) = V6) :
    TrS (fun b => b < V6.heap.size) V6 (.slice (some ⟨n + 3, 0, none⟩) 1 1) knM.rows ∧ Below V1.heap.size V1 V6 := by
  have z2 : V2.heap.size = n + 1 := by rw [← h2]; simp [hn]
  have z3 : V3.heap.size = n + 2 := by rw [← h3]; simp [z2]
  have z4 : V4.heap.size = n + 3 := by rw [← h4]; simp [z3]
  have z5 : V5.heap.size = n + 4 := by rw [← h5]; simp [z4]
  have b2 : Below V1.heap.size V1 V2 := by rw [← h2]; exact below_lit V1 _
  have b3 : Below V2.heap.size V2 V3 := by rw [← h3]; exact below_lit V2 _
  have b4 : Below V3.heap.size V3 V4 := by rw [← h4]; exact below_lit V3 _
  have b5 : Below V4.heap.size V4 V5 := by rw [← h5]; exact below_lit V4 _
  have b6 : Below V5.heap.size V5 V6 := by rw [← h6]; exact below_lit V5 _
  have o1 : FOwn 43 2 gcell 0 V2 (.slice (some ⟨n, 0, none⟩) 1 1) [(97, 0)] := by
    rw [← h2, ← hn]; exact fown_lit gcell_len V1 (Nat.zero_le _) [(97, 0)] (by decide)
  have o2 : FOwn 43 2 gcell 0 V3 (.slice (some ⟨n + 1, 0, none⟩) 1 1) [(98, 0)] := by
    rw [← h3, ← z2]; exact fown_lit gcell_len V2 (Nat.zero_le _) [(98, 0)] (by decide)
  have o3 : FOwn 26 1 pcell 0 V4 (.slice (some ⟨n + 2, 0, none⟩) 2 2) [(some ⟨n, 0, none⟩, 1, 1), (some ⟨n + 1, 0, none⟩, 1, 1)] := by
    rw [← h4, ← z3]; exact fown_lit pcell_len V3 (Nat.zero_le _) [(some ⟨n, 0, none⟩, 1, 1), (some ⟨n + 1, 0, none⟩, 1, 1)] (show (2 : Nat) ≤ maxLen from by decide)
  have o4 : FOwn 41 2 trcell 0 V5 (.slice (some ⟨n + 3, 0, none⟩) 1 1) [(false, (some ⟨n + 2, 0, none⟩, 2, 2))] := by
    rw [← h5, ← z4]; exact fown_lit trcell_len V4 (Nat.zero_le _) [(false, (some ⟨n + 2, 0, none⟩, 2, 2))] (show (1 : Nat) ≤ maxLen from by decide)
  have c5 := b5.trans (b6.mono b5.size)
  have c4 := b4.trans (c5.mono b4.size)
  have c3 := b3.trans (c4.mono b3.size)
  refine ⟨⟨[(false, (some ⟨n + 2, 0, none⟩, 2, 2))], rfl, own_al9 trcell_len o4 b6, fun i s r hs hr => ?_⟩, b2.trans (c3.mono b2.size)⟩
  rcases i with _ | i
  · simp [knM] at hs hr
    subst hs hr
    refine ⟨rfl, [(some ⟨n, 0, none⟩, 1, 1), (some ⟨n + 1, 0, none⟩, 1, 1)], rfl, own_al9 pcell_len o3 c5, fun i s r hs hr => ?_⟩
    rcases i with _ | _ | i
    · simp at hs hr
      subst hs hr
      exact own_al9 gcell_len o1 c3
    · simp at hs hr
      subst hs hr
      exact own_al9 gcell_len o2 c4
    · simp at hs
  · simp at hs
set_option maxRecDepth 100000 in
set_option maxHeartbeats 4000000 in
theorem known9_any : KnT := by
  intro w hU
  have HP : Hid (∀ W v, Below w.heap.size w W → Ss W v [[108, 32, 114, 46], [97, 9, 98]] → Calls Tryz.prog 7 #[.int .i64 1, v] W fun e w' => ∃ ra rn rc da dc, e = .returned (.tuple #[.agg #[.string ⟨#[108, 114]⟩, .slice ra rn rc, .bool false, .bool false], .slice da 0 dc]) ∧ Hid (TrS (fun b => b < w'.heap.size) w' (.slice ra rn rc) knM.rows) ∧ Hid (Below w.heap.size w w')) := Lib.hid fun W v hb hs => by
    refine (parse_any9 1 _ v W (by decide) (by decide) (hU.below hb) hs (by decide) (by decide)).mono ?_
    rintro e w' ⟨⟨ra, rn, rc⟩, vd, rfl, h1, h2, h3⟩
    rw [known_parse] at h1 h2 ⊢
    obtain ⟨da, dc, rfl⟩ := h2.len
    exact ⟨ra, rn, rc, da, dc, rfl, Lib.hid (h1.mono fun b q => q.2), Lib.hid (hb.trans (h3.mono hb.size))⟩
  go_enter Tryz.func6, Tryz.ntmps6
  have hs0 : Ss (w.alloc (.cells #[.string ⟨#[108, 32, 114, 46]⟩, .string ⟨#[97, 9, 98]⟩] 9)) (.slice (some ⟨w.heap.size, 0, none⟩) 2 2) [[108, 32, 114, 46], [97, 9, 98]] := fs_lit scell_len w 9 [[108, 32, 114, 46], [97, 9, 98]]
  have HP0 := Lib.hid (HP.out _ _ (below_lit w (.cells #[.string ⟨#[108, 32, 114, 46]⟩, .string ⟨#[97, 9, 98]⟩] 9)) hs0)
  go_wp2_with (go_at_call 7; refine HP0.out.mono ?_; rintro e V ⟨ra, rn, rc, da, dc, rfl, T1, B1⟩)
  obtain ⟨V1, hV1⟩ : ∃ V1, V.alloc (.cells #[.string ⟨#[108, 114]⟩, .slice ra rn rc, .bool false, .bool false] 24) = V1 := ⟨_, rfl⟩
  obtain ⟨V2, hV2⟩ : ∃ V2, V1.alloc (.cells #[.int .i32 97, .int .u8 0] 43) = V2 := ⟨_, rfl⟩
  obtain ⟨V3, hV3⟩ : ∃ V3, V2.alloc (.cells #[.int .i32 98, .int .u8 0] 43) = V3 := ⟨_, rfl⟩
  obtain ⟨V4, hV4⟩ : ∃ V4, V3.alloc (.cells #[.slice (some ⟨V.heap.size + 1, 0, none⟩) 1 1, .slice (some ⟨V.heap.size + 1 + 1, 0, none⟩) 1 1] 26) = V4 := ⟨_, rfl⟩
  obtain ⟨V5, hV5⟩ : ∃ V5, V4.alloc (.cells #[.bool false, .slice (some ⟨V.heap.size + 1 + 1 + 1, 0, none⟩) 2 2] 41) = V5 := ⟨_, rfl⟩
  obtain ⟨V6, hV6⟩ : ∃ V6, V5.alloc (.cells #[.string ⟨#[108, 114]⟩, .slice (some ⟨V.heap.size + 1 + 1 + 1 + 1, 0, none⟩) 1 1, .bool false, .bool false] 24) = V6 := ⟨_, rfl⟩
  have z1 : V1.heap.size = V.heap.size + 1 := by rw [← hV1]; simp
  have b1 : Below V.heap.size V V1 := by rw [← hV1]; exact below_lit V _
  obtain ⟨u1, u2⟩ := want9 V1 V2 V3 V4 V5 V6 (V.heap.size + 1) _ _ z1 hV2 hV3 hV4 hV5 hV6
  rw [hV1, hV2, hV3, hV4, hV5, hV6]
  have b6 := b1.trans (u2.mono b1.size)
  have t6 := (T1.out.keep (Kp.below b6 (fun b q => q)))
  have HS := Lib.hid (rsametable_any _ _ knM knM (ra, rn, rc) (some ⟨V.heap.size + 1 + 1 + 1 + 1, 0, none⟩, 1, 1) V6 t6 u1 (by decide) (by decide) (fun x q => Nat.lt_of_lt_of_le q b6.size) (fun x q => q))
  have HB := Lib.hid (B1.out.trans (b6.mono B1.out.size))
  clear u1 u2 b6 t6 b1 T1 HP HP0 hs0
  go_at_call 9
  refine HS.out.mono ?_
  rintro e V7 ⟨rfl, b7⟩
  have B7 := Lib.hid (HB.out.trans (b7.mono HB.out.size))
  clear b7
  go_wp2_with fail
  go_ret
  exact ⟨rfl, B7.out⟩
end Go.Proofs.YtaeplneiicobgaaGreatDoor
namespace Go.Proofs.YtaeplneiicobgaaGreatDoor
open Go.RowKit
theorem chars_data9 (l : Txt) : Lib.charsB ⟨l.toArray⟩ = l.map (fun x => (⟨#[x]⟩ : ByteArray)) := by
  apply List.ext_getElem?
  intro j
  unfold Lib.charsB Lib.charsUpTo
  rw [List.getElem?_map, List.getElem?_map]
  have hs : (⟨l.toArray⟩ : ByteArray).size = l.length := by simp [ByteArray.size]
  rw [hs]
  by_cases h : j < l.length
  · rw [List.getElem?_range h, List.getElem?_eq_getElem h]
    simp only [Option.map_some]
    congr 1
    apply ByteArray.ext
    rw [ByteArray.data_extract]
    apply Array.ext'
    simp [List.extract_eq_take_drop]
    rw [List.take_one, List.head?_drop, List.getElem?_eq_getElem h]
    rfl
  · rw [List.getElem?_eq_none (by simp; omega), List.getElem?_eq_none (by omega)]
    rfl
/-- strings.Split of each byte. -/
theorem chars_any9 (l : Txt) (w : World) (hl : l.length ≤ 1000) (ha : ∀ b ∈ l, b.toNat < 128) :
    Calls Tryz.prog 17 #[.string ⟨l.toArray⟩, .string ⟨#[]⟩] w fun e w' => ∃ g, e = .returned (.slice (some ⟨g, 0, none⟩) l.length l.length) ∧ g < w'.heap.size ∧ (∀ (j : Nat) x, (l.map (fun x => [x]))[j]? = some x → w'.cell? ⟨g, 0 + j, none⟩ = some (.string ⟨x.toArray⟩)) ∧ Below w.heap.size w w' := by
  have hs : (⟨l.toArray⟩ : ByteArray).size = l.length := by simp [ByteArray.size]
  refine (chars_any ⟨l.toArray⟩ w (by rw [hs]; omega) (fun j b h => ha b (List.mem_of_getElem? h))).mono ?_
  rintro e w' ⟨rfl, rfl⟩
  rw [hs]
  have b1 : Below w.heap.size w (w.iter ⟨l.toArray⟩ l.length) := (Below.refl _ w).alloc (Nat.le_refl _) _
  refine ⟨_, rfl, by simp, fun j x hx => ?_, b1.trans ((below_lit (w.iter ⟨l.toArray⟩ l.length) _).mono b1.size)⟩
  have hk := heap_alloc_new (w.iter ⟨l.toArray⟩ l.length) (.cells ((Lib.charsB ⟨l.toArray⟩).map Value.string).toArray 9)
  have h := Blk.cell (L := (Lib.charsB ⟨l.toArray⟩).map Value.string) hk j
  rw [Nat.zero_add, h, chars_data9, List.map_map, List.getElem?_map]
  rw [List.getElem?_map] at hx
  cases hj : l[j]? with
  | none => rw [hj] at hx; cases hx
  | some y =>
    rw [hj] at hx
    cases hx
    rfl
/-- Print, under way. -/
structure PrM (w : World) (m : Tab) (r : PV) (W : World) (v : Value) (acc : List Txt) : Prop where
  bel : Below w.heap.size w W
  tbl : Blk W w.heap.size 24 [.string ⟨m.cols.toArray⟩, pv r, .bool m.box, .bool m.all]
  rows : WInv w.heap.size W (pv r) m.rows
  ln : SOwn w.heap.size W v acc
section
variable {w W W' : World} {m : Tab} {r : PV} {v : Value} {acc : List Txt}
theorem PrM.keep (h : PrM w m r W v acc) (hb : Below W.heap.size W W') : PrM w m r W' v acc := ⟨h.bel.trans (hb.mono h.bel.size), h.tbl.below hb, h.rows.keep hb, h.ln.keep hb⟩
theorem PrM.push (h : PrM w m r W v acc) (hd : acc.length ≤ 500000) (x : Txt) :
    ∃ v' w2, (appS #[v, .slice (some ⟨W.heap.size, 0, none⟩) 1 1]).run Tryz.prog (W.alloc (.cells #[.string ⟨x.toArray⟩] 9)) = .ok (.value v') w2 ∧ PrM w m r w2 v' (acc ++ [x]) := by
  have b1 := below_lit W (.cells #[.string ⟨x.toArray⟩] 9)
  have h1 := h.keep b1
  obtain ⟨v', w2, hrun, ho, hg, -⟩ := appS_own h1.ln (fs_lit scell_len W 9 [x]) h1.bel.size (by simp; omega)
  have sm : ∀ {e : TypeId}, e ≠ 9 → SamT e w.heap.size (W.alloc (.cells #[.string ⟨x.toArray⟩] 9)) w2 := fun he => SamT.grown hg (fun g e => by
    obtain ⟨-, cur, hc⟩ := h1.ln.ty e
    exact ⟨cur, _, hc⟩) he
  exact ⟨v', w2, hrun, ⟨h1.bel.grown hg h1.bel.size (fun j e => (h1.ln.ty e).1), h1.tbl.sam (Nat.le_refl _) (sm (by decide)), h1.rows.sam (sm (by decide)) (sm (by decide)) (sm (by decide)), ho⟩⟩
end
attribute [local go_sem] Oper.semAt_some
attribute [local go_sem ↓ high] binop_addS builtin_appS
set_option maxRecDepth 100000 in
set_option maxHeartbeats 4000000 in
theorem print_any9 (S : Nat → Prop) (t : Tab) (r : PV) (w : World) (hS : ∀ b, S b → b < w.heap.size) (hU : U8 w) (hv : TrS S w (pv r) t.rows) (hb : bareT t = true) (hc : t.cols.length ≤ 600) (hl : trls t.rows ≤ 600) :
    Calls Tryz.prog 8 #[tabV t r] w fun e w' => ∃ v, e = .returned v ∧ SOwn w.heap.size w' v (printP t) ∧ Below w.heap.size w w' := by
  obtain ⟨m, hm⟩ : ∃ m, mend t = m := ⟨_, rfl⟩
  have hbm := mend_bare hb
  have hms := trls_mrows9 (mcols t.cols).length t.rows
  have htl := trls_len t.rows
  have hmc := mcols_ok t.cols
  have hmrows : (mend t).rows = t.rows.map (mrowT (mcols t.cols).length) := rfl
  have hmcols : (mend t).cols = mcols t.cols := rfl
  have HPR : Hid (printP t = printM m) := Lib.hid (by rw [← hm]; rfl)
  obtain ⟨t1, t2, t3, t4⟩ := t
  obtain ⟨r1, r2, r3⟩ := r
  simp only at hv hb hc hl hms htl hmc hmrows hmcols
  rw [← hmrows] at hms
  rw [← hmcols] at hmc
  rw [hm] at hbm hms hmc
  have hmt : trls m.rows ≤ 90000 := by
    have h1 : (mcols t1).length ≤ 20 := (mcols_ok t1).2.1
    have h2 := Nat.mul_le_mul h1 (Nat.le_trans htl hl)
    omega
  have hrb : Hid (∀ r ∈ m.rows, (∀ c ∈ r.2, c.all bareG = true) ∧ r.2.length + lens r.2 ≤ 90000) := Lib.hid fun r hr => by
    unfold bareT at hbm
    have h1 := List.all_eq_true.1 hbm r hr
    refine ⟨fun c hc => List.all_eq_true.1 h1 c hc, ?_⟩
    have h2 := trl_mem hr
    unfold trl at h2
    omega
  have hrn : m.rows.length ≤ 90000 := by
    have := trls_len m.rows
    omega
  obtain ⟨W1, hW1⟩ : ∃ W1, w.alloc (.cells #[.string ⟨t1.toArray⟩, .slice r1 r2 r3, .bool t3, .bool t4] 24) = W1 := ⟨_, rfl⟩
  have b1 : Below w.heap.size w W1 := by rw [← hW1]; exact below_lit w _
  have k1 : Blk W1 w.heap.size 24 [.string ⟨t1.toArray⟩, .slice r1 r2 r3, .bool t3, .bool t4] := by rw [← hW1]; exact heap_alloc_new w _
  have z1 : W1.heap.size = w.heap.size + 1 := by rw [← hW1]; simp
  have c0 : W1.cell? ⟨w.heap.size, 0, none⟩ = some (.string ⟨t1.toArray⟩) := k1.cell 0
  have c1 : W1.cell? ⟨w.heap.size, 1, none⟩ = some (.slice r1 r2 r3) := k1.cell 1
  have c2 : W1.cell? ⟨w.heap.size, 2, none⟩ = some (.bool t3) := k1.cell 2
  have c3 : W1.cell? ⟨w.heap.size, 3, none⟩ = some (.bool t4) := k1.cell 3
  have HMD : Hid (Calls Tryz.prog 15 #[.agg #[.string ⟨t1.toArray⟩, .slice r1 r2 r3, .bool t3, .bool t4]] W1 fun e w' => ∃ s1 s2 s3, e = .returned (.agg #[.string ⟨m.cols.toArray⟩, .slice s1 s2 s3, .bool m.box, .bool m.all]) ∧
      w'.cell? ⟨w.heap.size, 0, none⟩ = some (.string ⟨t1.toArray⟩) ∧ w'.cell? ⟨w.heap.size, 1, none⟩ = some (.slice r1 r2 r3) ∧ w'.cell? ⟨w.heap.size, 2, none⟩ = some (.bool t3) ∧ w'.cell? ⟨w.heap.size, 3, none⟩ = some (.bool t4) ∧
      w'.frozen? ⟨w.heap.size, 0, none⟩ = false ∧ w'.frozen? ⟨w.heap.size, 1, none⟩ = false ∧ w'.frozen? ⟨w.heap.size, 2, none⟩ = false ∧ w'.frozen? ⟨w.heap.size, 3, none⟩ = false ∧
      Hid (PrM w m (s1, s2, s3) ((((w'.setCell ⟨w.heap.size, 0, none⟩ (.string ⟨m.cols.toArray⟩)).setCell ⟨w.heap.size, 1, none⟩ (.slice s1 s2 s3)).setCell ⟨w.heap.size, 2, none⟩ (.bool m.box)).setCell ⟨w.heap.size, 3, none⟩ (.bool m.all)) (.slice none 0 0) [])) := Lib.hid (by
    refine (pmend_any S ⟨t1, t2, t3, t4⟩ (r1, r2, r3) W1 (hU.below b1) (hv.keep (Kp.below b1 hS)) (by show t1.length ≤ _; omega) (by show trls t2 ≤ _; omega) (fun b q => Nat.lt_of_lt_of_le (hS b q) b1.size)).mono ?_
    rw [hm]
    rintro e w' ⟨⟨s1, s2, s3⟩, rfl, g1, g2⟩
    have k2 := k1.below g2
    have j1 := k2.set 0 (.string ⟨m.cols.toArray⟩)
    have j2 := j1.set 1 (.slice s1 s2 s3)
    have j3 := j2.set 2 (.bool m.box)
    have j4 := j3.set 3 (.bool m.all)
    have i0 := g1.low9 b1.size
    have i1 := i0.sam (SamT.set k2 (by decide) 0 (.string ⟨m.cols.toArray⟩)) (SamT.set k2 (by decide) 0 (.string ⟨m.cols.toArray⟩)) (SamT.set k2 (by decide) 0 (.string ⟨m.cols.toArray⟩))
    have i2 := i1.sam (SamT.set j1 (by decide) 1 (.slice s1 s2 s3)) (SamT.set j1 (by decide) 1 (.slice s1 s2 s3)) (SamT.set j1 (by decide) 1 (.slice s1 s2 s3))
    have i3 := i2.sam (SamT.set j2 (by decide) 2 (.bool m.box)) (SamT.set j2 (by decide) 2 (.bool m.box)) (SamT.set j2 (by decide) 2 (.bool m.box))
    have i4 := i3.sam (SamT.set j3 (by decide) 3 (.bool m.all)) (SamT.set j3 (by decide) 3 (.bool m.all)) (SamT.set j3 (by decide) 3 (.bool m.all))
    have bb := b1.trans (g2.mono b1.size)
    refine ⟨s1, s2, s3, rfl, k2.cell 0, k2.cell 1, k2.cell 2, k2.cell 3, k2.frozen (by simp), k2.frozen (by simp), k2.frozen (by simp), k2.frozen (by simp), Lib.hid ⟨(((bb.setCell (p := ⟨w.heap.size, 0, none⟩) (Nat.le_refl _) _).setCell (p := ⟨w.heap.size, 1, none⟩) (Nat.le_refl _) _).setCell (p := ⟨w.heap.size, 2, none⟩) (Nat.le_refl _) _).setCell (p := ⟨w.heap.size, 3, none⟩) (Nat.le_refl _) _, j4, i4, FOwn.nil _ _⟩⟩)
  have HCL : Hid (∀ b ∈ m.cols, b.toNat < 128) := Lib.hid fun b hb => by
    have h := List.all_eq_true.1 hmc.2.2 b hb
    unfold side at h
    simp only [Bool.or_eq_true, beq_iff_eq] at h
    rcases h with (h | h) | h <;> rw [h] <;> decide
  have hcl := hmc.2.1
  obtain ⟨J, hJ⟩ : ∃ J, joinB 32 (m.cols.map (fun x => [x])) = J := ⟨_, rfl⟩
  have hjl : J.length ≤ 100 := by
    rw [← hJ]
    have h1 := joinB_len 32 (m.cols.map fun x => [x])
    rw [lnT_ones] at h1
    omega
  obtain ⟨K, hK⟩ : ∃ K, J ++ [46] = K := ⟨_, rfl⟩
  have AD : ∀ W, (addS (.string ⟨J.toArray⟩) (.string ⟨#[46]⟩)).run Tryz.prog W = .ok (.string ⟨K.toArray⟩) W := fun W => by rw [← hK]; exact str_add J [46] (by simp; omega) W
  have hKp : pcolsT m.cols = K := by rw [← hK, ← hJ]; rfl
  obtain ⟨nc, hnc⟩ : ∃ nc, m.cols.length = nc := ⟨_, rfl⟩
  obtain ⟨n, hn⟩ : ∃ n, m.rows.length = n := ⟨_, rfl⟩
  have HSP : Hid (∀ (W : World) v pre r', PrM w m r' W v pre → Calls Tryz.prog 17 #[.string ⟨m.cols.toArray⟩, .string ⟨#[]⟩] W fun e w' => ∃ g, e = .returned (.slice (some ⟨g, 0, none⟩) nc nc) ∧ Hid (PrM w m r' w' v pre) ∧ Hid (g < w'.heap.size ∧ ∀ (j : Nat) x, (m.cols.map (fun x => [x]))[j]? = some x → w'.cell? ⟨g, 0 + j, none⟩ = some (.string ⟨x.toArray⟩))) := Lib.hid fun W v pre r' hW => by
    refine (chars_any9 m.cols W (by omega) HCL.out).mono ?_
    rintro e w' ⟨g, rfl, q1, q2, q3⟩
    exact ⟨g, by rw [hnc], Lib.hid (hW.keep q3), Lib.hid ⟨q1, q2⟩⟩
  have HJN : Hid (∀ (W : World) v pre s1 s3 g, PrM w m (s1, n, s3) W v pre → (g < W.heap.size ∧ ∀ (j : Nat) x, (m.cols.map (fun x => [x]))[j]? = some x → W.cell? ⟨g, 0 + j, none⟩ = some (.string ⟨x.toArray⟩)) → pre.length ≤ 1 → Calls Tryz.prog 16 #[.slice (some ⟨g, 0, none⟩) nc nc, .string ⟨#[32]⟩] W fun e w' => ∃ v' w2, e = .returned (.string ⟨J.toArray⟩) ∧ (appS #[v, .slice (some ⟨w'.heap.size, 0, none⟩) 1 1]).run Tryz.prog (w'.alloc (.cells #[.string ⟨K.toArray⟩] 9)) = .ok (.value v') w2 ∧ w2.cell? ⟨w.heap.size, 1, none⟩ = some (.slice s1 n s3) ∧ Hid (PrM w m (s1, n, s3) w2 v' (pre ++ [K]))) := Lib.hid fun W v pre s1 s3 g hW hg hp => by
    refine (join_any9 (m.cols.map fun x => [x]) 32 _ nc nc W ⟨g, 0, rfl, hg.1, hg.2⟩ (by rw [List.length_map]; exact hnc.symm) (Nat.le_refl _) (by rw [lnT_ones]; omega)).mono ?_
    rintro e w' ⟨rfl, q1⟩
    obtain ⟨v', w2, p1, p2⟩ := (hW.keep q1).push (by omega) K
    exact ⟨v', w2, by rw [hJ], p1, p2.tbl.cell 1, Lib.hid p2⟩
  have HRW : Hid (∀ (W : World) v pre s1 s3 (j : Nat) x, PrM w m (s1, n, s3) W v (pre ++ (m.rows.take j).map prowT) → m.rows[j]? = some x → pre.length ≤ 2 → ∃ g off xa xc, s1 = some ⟨g, off, none⟩ ∧ W.cell? ⟨g, off + j * 2, none⟩ = some (.bool x.1) ∧ W.cell? ⟨g, off + j * 2 + 1, none⟩ = some (.slice xa x.2.length xc) ∧
      ∀ A, Below W.heap.size W A → Calls Tryz.prog 18 #[.agg #[.bool x.1, .slice xa x.2.length xc]] A fun e w' => ∃ v' w2, e = .returned (.string ⟨(prowT x).toArray⟩) ∧ (appS #[v, .slice (some ⟨w'.heap.size, 0, none⟩) 1 1]).run Tryz.prog (w'.alloc (.cells #[.string ⟨(prowT x).toArray⟩] 9)) = .ok (.value v') w2 ∧ Hid (PrM w m (s1, n, s3) w2 v' (pre ++ (m.rows.take (j + 1)).map prowT))) := Lib.hid fun W v pre s1 s3 j x hW hx hp => by
    obtain ⟨L, hLl, hLv, hLr⟩ := hW.rows.trs
    have hjl := (List.getElem?_eq_some_iff.1 hx).1
    obtain ⟨y, hy⟩ : ∃ y, L[j]? = some y := ⟨L[j]'(by omega), List.getElem?_eq_getElem _⟩
    obtain ⟨hy1, hy2⟩ := hLr j y x hy hx
    obtain ⟨a', cap', e', -, hrd⟩ := hLv.1
    obtain ⟨g, off, e2, h2⟩ := hrd j y hy
    have h3 := h2 0 (.bool y.1) rfl
    have h4 := h2 1 (pv y.2) rfl
    injection e' with e3 e4 e5
    obtain ⟨xa, xc, e6⟩ := hy2.len
    rw [e6] at h4 hy2
    rw [hy1] at h3
    refine ⟨g, off, xa, xc, e3.trans e2, h3, h4, fun A hA => ?_⟩
    have hb := hrb.out x (List.mem_of_getElem? hx)
    refine (printed_any9 _ x xa xc A (hy2.keep (Kp.below hA (fun b q => q.2))) (fun b q => Nat.lt_of_lt_of_le q.2 hA.size) hb.1 hb.2).mono ?_
    rintro e w' ⟨rfl, q1⟩
    obtain ⟨v', w2, p1, p2⟩ := ((hW.keep hA).keep q1).push (by rw [List.length_append, List.length_map, List.length_take]; omega) (prowT x)
    refine ⟨v', w2, rfl, p1, Lib.hid ?_⟩
    rw [List.append_assoc, ← List.map_singleton (f := prowT), ← List.map_append, ← take_one9 hx] at p2
    exact p2
  have HPM : Hid (printM m = (if m.all then [[97, 108, 108, 98, 111, 120, 59]] else if m.box then [[98, 111, 120, 59]] else []) ++ K :: m.rows.map prowT) := Lib.hid (by rw [← hKp]; rfl)
  have HMD2 : Hid (Calls Tryz.prog 15 #[.agg #[.string ⟨t1.toArray⟩, .slice r1 r2 r3, .bool t3, .bool t4]] W1 fun e w' => ∃ s1 s3, e = .returned (.agg #[.string ⟨m.cols.toArray⟩, .slice s1 n s3, .bool m.box, .bool m.all]) ∧
      w'.cell? ⟨w.heap.size, 0, none⟩ = some (.string ⟨t1.toArray⟩) ∧ w'.cell? ⟨w.heap.size, 1, none⟩ = some (.slice r1 r2 r3) ∧ w'.cell? ⟨w.heap.size, 2, none⟩ = some (.bool t3) ∧ w'.cell? ⟨w.heap.size, 3, none⟩ = some (.bool t4) ∧
      w'.frozen? ⟨w.heap.size, 0, none⟩ = false ∧ w'.frozen? ⟨w.heap.size, 1, none⟩ = false ∧ w'.frozen? ⟨w.heap.size, 2, none⟩ = false ∧ w'.frozen? ⟨w.heap.size, 3, none⟩ = false ∧
      Hid (PrM w m (s1, n, s3) ((((w'.setCell ⟨w.heap.size, 0, none⟩ (.string ⟨m.cols.toArray⟩)).setCell ⟨w.heap.size, 1, none⟩ (.slice s1 n s3)).setCell ⟨w.heap.size, 2, none⟩ (.bool m.box)).setCell ⟨w.heap.size, 3, none⟩ (.bool m.all)) (.slice none 0 0) [])) := Lib.hid (HMD.out.mono (by
    rintro e w' ⟨s1, s2, s3, rfl, q0, q1, q2, q3, q4, q5, q6, q7, hp⟩
    obtain ⟨a, c, e⟩ := hp.out.rows.len
    have e2 := pv_eq e
    injection e2 with e3 e4
    injection e4 with e4 e5
    have e6 : s2 = n := by rw [e4, hn]
    subst e6
    exact ⟨s1, s3, rfl, q0, q1, q2, q3, q4, q5, q6, q7, hp⟩))
  clear HMD
  simp only [tabV, pv]
  rw [HPR.out, HPM.out]
  have HRN := Lib.hid hn
  have hnb : n ≤ 90000 := by omega
  obtain ⟨al, hal⟩ : ∃ al, m.all = al := ⟨_, rfl⟩
  obtain ⟨bx, hbx⟩ : ∃ bx, m.box = bx := ⟨_, rfl⟩
  rw [hal, hbx] at HMD2 ⊢
  clear hb hm hU hv hS hmc b1 k1 hbm hms hmrows hmcols HPR HPM z1 hJ hK hKp hnc hn hal hbx hrb
  cases al
  · cases bx
    · go_enter Tryz.func8, Tryz.ntmps8
      go_wp2_with (go_at_call 15; refine HMD2.out.mono ?_; rintro e V ⟨s1, s3, rfl, c0', c1', c2', c3', f0, f1, f2, f3, hp⟩)
      have HP3 := hp
      clear hp
      go_wp2_with (first
        | (go_at_call 17; refine (HSP.out _ _ _ _ HP3.out).mono ?_; rintro e V4 ⟨g4, rfl, p4, q4⟩)
        | (go_at_call 16; refine (HJN.out _ _ _ _ _ _ p4.out q4.out (by simp)).mono ?_; rintro e V5 ⟨v5, W5, rfl, kk5, d1, p5⟩))
      clear HSP HJN HP3 p4 q4
      go_loopw [3, 5, 31] (fun s _ i wr => ∃ j : Nat, j ≤ n ∧ i = .int .i64 j ∧ Hid (PrM w m (s1, n, s3) wr s (([] : List Txt) ++ [K] ++ (m.rows.take j).map prowT))) (fun _ _ i _ => n - (intOf i).toNat)
      case atStart => exact ⟨0, by omega, rfl, by simp only [List.take_zero, List.map_nil, List.append_nil]; exact p5⟩
      case round =>
        obtain ⟨j, hj, rfl, HP⟩ := hrel
        clear p5
        by_cases hlt : j < n
        · obtain ⟨x, hx⟩ : ∃ x, m.rows[j]? = some x := ⟨m.rows[j]'(by rw [HRN.out]; exact hlt), List.getElem?_eq_getElem _⟩
          obtain ⟨g, off, xa, xc, rfl, h1, h2, h3⟩ := HRW.out _ _ _ _ _ _ _ HP.out hx (by simp)
          have hi0 : (j : Int) < (n : Int) := by omega
          have hi1 : (0 : Int) ≤ (j : Int) := by omega
          obtain ⟨b, l⟩ := x
          simp only at h1 h2 h3
          obtain ⟨nl, hnl⟩ : ∃ nl, l.length = nl := ⟨_, rfl⟩
          rw [hnl] at h2 h3
          have H3 := Lib.hid (h3 _ (below_lit wr (.cells #[.bool b, .slice xa nl xc] 41)))
          clear h3 hx hnl HRW HP
          go_wp2_with (go_at_call 18; refine H3.out.mono ?_; rintro e V6 ⟨v6, W6, rfl, kk6, p6⟩)
          go_roundw
          case rel => exact ⟨j + 1, by omega, by go_num, p6⟩
          case measure => (simp [intOf]; try omega)
        · obtain rfl : j = n := by omega
          have hlt' : ¬ (j : Int) < (j : Int) := by omega
          have HPE := Lib.hid HP.out
          rw [← HRN.out, List.take_length] at HPE
          clear HP HRW
          go_wp2_with fail
          go_ret
          exact ⟨_, rfl, by have h := HPE.out.ln; simpa using h, HPE.out.bel⟩
    · go_enter Tryz.func8, Tryz.ntmps8
      go_wp2_with (go_at_call 15; refine HMD2.out.mono ?_; rintro e V ⟨s1, s3, rfl, c0', c1', c2', c3', f0, f1, f2, f3, hp⟩)
      obtain ⟨W2, hW2⟩ : ∃ W2, ((((V.setCell ⟨w.heap.size, 0, none⟩ (.string ⟨m.cols.toArray⟩)).setCell ⟨w.heap.size, 1, none⟩ (.slice s1 n s3)).setCell ⟨w.heap.size, 2, none⟩ (.bool true)).setCell ⟨w.heap.size, 3, none⟩ (.bool false)) = W2 := ⟨_, rfl⟩
      have hz2 : W2.heap.size = V.heap.size := by rw [← hW2]; simp
      rw [hW2] at hp ⊢
      obtain ⟨v1, W3, kk0, hp3⟩ := hp.out.push (by simp) [98, 111, 120, 59]
      rw [hz2] at kk0
      have kk1 : (appS #[.slice none 0 0, .slice (some ⟨V.heap.size, 0, none⟩) 1 1]).run Tryz.prog (W2.alloc (.cells #[.string ⟨#[98, 111, 120, 59]⟩] 9)) = .ok (.value v1) W3 := kk0
      have HP3 : Hid (PrM w m (s1, n, s3) W3 v1 [[98, 111, 120, 59]]) := Lib.hid hp3
      have d0 : W3.cell? ⟨w.heap.size, 0, none⟩ = some (.string ⟨m.cols.toArray⟩) := hp3.tbl.cell 0
      clear hp hp3 kk0 hW2 hz2 c0' c1' c2' c3' f0 f1 f2 f3 HMD2
      go_simp
      go_wp2_with (first
        | (go_at_call 17; refine (HSP.out _ _ _ _ HP3.out).mono ?_; rintro e V4 ⟨g4, rfl, p4, q4⟩)
        | (go_at_call 16; refine (HJN.out _ _ _ _ _ _ p4.out q4.out (by simp)).mono ?_; rintro e V5 ⟨v5, W5, rfl, kk5, d1, p5⟩))
      clear HSP HJN HP3 p4 q4
      go_loopw [3, 5, 31] (fun s _ i wr => ∃ j : Nat, j ≤ n ∧ i = .int .i64 j ∧ Hid (PrM w m (s1, n, s3) wr s ([[98, 111, 120, 59]] ++ [K] ++ (m.rows.take j).map prowT))) (fun _ _ i _ => n - (intOf i).toNat)
      case atStart => exact ⟨0, by omega, rfl, by simp only [List.take_zero, List.map_nil, List.append_nil]; exact p5⟩
      case round =>
        obtain ⟨j, hj, rfl, HP⟩ := hrel
        clear p5
        by_cases hlt : j < n
        · obtain ⟨x, hx⟩ : ∃ x, m.rows[j]? = some x := ⟨m.rows[j]'(by rw [HRN.out]; exact hlt), List.getElem?_eq_getElem _⟩
          obtain ⟨g, off, xa, xc, rfl, h1, h2, h3⟩ := HRW.out _ _ _ _ _ _ _ HP.out hx (by simp)
          have hi0 : (j : Int) < (n : Int) := by omega
          have hi1 : (0 : Int) ≤ (j : Int) := by omega
          obtain ⟨b, l⟩ := x
          simp only at h1 h2 h3
          obtain ⟨nl, hnl⟩ : ∃ nl, l.length = nl := ⟨_, rfl⟩
          rw [hnl] at h2 h3
          have H3 := Lib.hid (h3 _ (below_lit wr (.cells #[.bool b, .slice xa nl xc] 41)))
          clear h3 hx hnl HRW HP
          go_wp2_with (go_at_call 18; refine H3.out.mono ?_; rintro e V6 ⟨v6, W6, rfl, kk6, p6⟩)
          go_roundw
          case rel => exact ⟨j + 1, by omega, by go_num, p6⟩
          case measure => (simp [intOf]; try omega)
        · obtain rfl : j = n := by omega
          have hlt' : ¬ (j : Int) < (j : Int) := by omega
          have HPE := Lib.hid HP.out
          rw [← HRN.out, List.take_length] at HPE
          clear HP HRW
          go_wp2_with fail
          go_ret
          exact ⟨_, rfl, by have h := HPE.out.ln; simpa using h, HPE.out.bel⟩
  · go_enter Tryz.func8, Tryz.ntmps8
    go_wp2_with (go_at_call 15; refine HMD2.out.mono ?_; rintro e V ⟨s1, s3, rfl, c0', c1', c2', c3', f0, f1, f2, f3, hp⟩)
    obtain ⟨W2, hW2⟩ : ∃ W2, ((((V.setCell ⟨w.heap.size, 0, none⟩ (.string ⟨m.cols.toArray⟩)).setCell ⟨w.heap.size, 1, none⟩ (.slice s1 n s3)).setCell ⟨w.heap.size, 2, none⟩ (.bool bx)).setCell ⟨w.heap.size, 3, none⟩ (.bool true)) = W2 := ⟨_, rfl⟩
    have hz2 : W2.heap.size = V.heap.size := by rw [← hW2]; simp
    rw [hW2] at hp ⊢
    obtain ⟨v1, W3, kk0, hp3⟩ := hp.out.push (by simp) [97, 108, 108, 98, 111, 120, 59]
    rw [hz2] at kk0
    have kk1 : (appS #[.slice none 0 0, .slice (some ⟨V.heap.size, 0, none⟩) 1 1]).run Tryz.prog (W2.alloc (.cells #[.string ⟨#[97, 108, 108, 98, 111, 120, 59]⟩] 9)) = .ok (.value v1) W3 := kk0
    have HP3 : Hid (PrM w m (s1, n, s3) W3 v1 [[97, 108, 108, 98, 111, 120, 59]]) := Lib.hid hp3
    have d0 : W3.cell? ⟨w.heap.size, 0, none⟩ = some (.string ⟨m.cols.toArray⟩) := hp3.tbl.cell 0
    clear hp hp3 kk0 hW2 hz2 c0' c1' c2' c3' f0 f1 f2 f3 HMD2
    go_simp
    go_wp2_with (first
      | (go_at_call 17; refine (HSP.out _ _ _ _ HP3.out).mono ?_; rintro e V4 ⟨g4, rfl, p4, q4⟩)
      | (go_at_call 16; refine (HJN.out _ _ _ _ _ _ p4.out q4.out (by simp)).mono ?_; rintro e V5 ⟨v5, W5, rfl, kk5, d1, p5⟩))
    clear HSP HJN HP3 p4 q4
    go_loopw [3, 5, 31] (fun s _ i wr => ∃ j : Nat, j ≤ n ∧ i = .int .i64 j ∧ Hid (PrM w m (s1, n, s3) wr s ([[97, 108, 108, 98, 111, 120, 59]] ++ [K] ++ (m.rows.take j).map prowT))) (fun _ _ i _ => n - (intOf i).toNat)
    case atStart => exact ⟨0, by omega, rfl, by simp only [List.take_zero, List.map_nil, List.append_nil]; exact p5⟩
    case round =>
      obtain ⟨j, hj, rfl, HP⟩ := hrel
      clear p5
      by_cases hlt : j < n
      · obtain ⟨x, hx⟩ : ∃ x, m.rows[j]? = some x := ⟨m.rows[j]'(by rw [HRN.out]; exact hlt), List.getElem?_eq_getElem _⟩
        obtain ⟨g, off, xa, xc, rfl, h1, h2, h3⟩ := HRW.out _ _ _ _ _ _ _ HP.out hx (by simp)
        have hi0 : (j : Int) < (n : Int) := by omega
        have hi1 : (0 : Int) ≤ (j : Int) := by omega
        obtain ⟨b, l⟩ := x
        simp only at h1 h2 h3
        obtain ⟨nl, hnl⟩ : ∃ nl, l.length = nl := ⟨_, rfl⟩
        rw [hnl] at h2 h3
        have H3 := Lib.hid (h3 _ (below_lit wr (.cells #[.bool b, .slice xa nl xc] 41)))
        clear h3 hx hnl HRW HP
        go_wp2_with (go_at_call 18; refine H3.out.mono ?_; rintro e V6 ⟨v6, W6, rfl, kk6, p6⟩)
        go_roundw
        case rel => exact ⟨j + 1, by omega, by go_num, p6⟩
        case measure => (simp [intOf]; try omega)
      · obtain rfl : j = n := by omega
        have hlt' : ¬ (j : Int) < (j : Int) := by omega
        have HPE := Lib.hid HP.out
        rw [← HRN.out, List.take_length] at HPE
        clear HP HRW
        go_wp2_with fail
        go_ret
        exact ⟨_, rfl, by have h := HPE.out.ln; simpa using h, HPE.out.bel⟩
theorem implTz9 : ImplT where
  cut := fun b w hb => cut9_any b w (by omega)
  look := fun b w hU hb => look_any b w hU (by omega)
  cols := fun b w hU hb => columns_any b w hU (by omega)
  parse := fun line L v w h0 h1 hU hS hl hL => parse_any9 line L v w h0 h1 hU hS hl hL
  prnt := fun t r w S hS hU hv hb hc hl => print_any9 S t r w hS hU hv hb hc hl
end Go.Proofs.YtaeplneiicobgaaGreatDoor
