/- What the laws of tables ask of the package: it is so here. -/
import Derived.Test.YtaeplneiicobgaaDoorVk
import Derived.Test.YtaeplneiicobgaaDoorV5
import Derived.Test.YtaeplneiicobgaaDoorV6
import Derived.Test.YtaeplneiicobgaaDoorJF
set_option linter.unusedVariables false
set_option linter.unusedSimpArgs false
namespace Go.Proofs.YtaeplneiicobgaaDoor
open Go.RowKit
theorem parse_any9 (line : Int) (L : List Txt) (v : Value) (w : World) (h0 : 0 ≤ line) (h1 : line ≤ 100000) (hU : U8 w) (hS : Ss w v L) (hl : lnT L ≤ 40000) (hL : ∀ s ∈ L, s.length ≤ 2000) :
    Calls Tryd.prog 15 #[.int .i64 line, v] w fun e w' => ∃ (r : PV) (vd : Value), e = .returned (.tuple #[tabV (parseP lgF line L).1 r, vd]) ∧ TrS (fun b => w.heap.size ≤ b ∧ b < w'.heap.size) w' (pv r) (parseP lgF line L).1.rows ∧ DgS w' vd (parseP lgF line L).2 ∧ Below w.heap.size w w' := by
  obtain ⟨a, c, rfl⟩ := hS.len
  refine (callsIn_wide.1 (parse_in9 line L a c w h0 h1 hU hS hl hL)).mono ?_
  rintro e W' ⟨r, vd, rfl, hF⟩
  exact ⟨r, vd, rfl, hF.rows.trs, FOwn.sl edcell_len hF.d, hF.bel⟩
theorem own_al9 {α : Type} {e n : Nat} {f : α → List Value} {W W' : World} {x : Value} {l : List α} (hf : ∀ x, (f x).length = n) (h : FOwn e n f 0 W x l) (hb : Below W.heap.size W W') : FsS (fun b => b < W'.heap.size) n f W' x l :=
  FsS.mono (own_foot hf (h.keep hb)) (fun b ⟨_, cur, fz, q⟩ => (Array.getElem?_eq_some_iff.1 q).1)
theorem want9 (V1 V2 V3 V4 V5 V6 : World) (n : Nat) (c : Array Value) (t : TypeId) (hn : V1.heap.size = n) (h2 : V1.alloc (.cells #[.int .i32 97, .int .u8 0] 45) = V2) (h3 : V2.alloc (.cells #[.int .i32 98, .int .u8 0] 45) = V3)
    (h4 : V3.alloc (.cells #[.slice (some ⟨n, 0, none⟩) 1 1, .slice (some ⟨n + 1, 0, none⟩) 1 1] 46) = V4) (h5 : V4.alloc (.cells #[.bool false, .slice (some ⟨n + 2, 0, none⟩) 2 2] 49) = V5) (h6 : V5.alloc (.cells c t) = V6) :
    TrS (fun b => b < V6.heap.size) V6 (.slice (some ⟨n + 3, 0, none⟩) 1 1) knM.rows ∧ Below V1.heap.size V1 V6 := by
  have z2 : V2.heap.size = n + 1 := by rw [← h2]; simp [hn]
  have z3 : V3.heap.size = n + 2 := by rw [← h3]; simp [z2]
  have z4 : V4.heap.size = n + 3 := by rw [← h4]; simp [z3]
  have z5 : V5.heap.size = n + 4 := by rw [← h5]; simp [z4]
  have b2 : Below V1.heap.size V1 V2 := by rw [← h2]; exact below_lit V1 _
  have b3 : Below V2.heap.size V2 V3 := by rw [← h3]; exact below_lit V2 _
  have b4 : Below V3.heap.size V3 V4 := by rw [← h4]; exact below_lit V3 _
  have b5 : Below V4.heap.size V4 V5 := by rw [← h5]; exact below_lit V4 _
  have b6 : Below V5.heap.size V5 V6 := by rw [← h6]; exact below_lit V5 _
  have o1 : FOwn 45 2 gcell 0 V2 (.slice (some ⟨n, 0, none⟩) 1 1) [(97, 0)] := by
    rw [← h2, ← hn]; exact fown_lit gcell_len V1 (Nat.zero_le _) [(97, 0)] (by decide)
  have o2 : FOwn 45 2 gcell 0 V3 (.slice (some ⟨n + 1, 0, none⟩) 1 1) [(98, 0)] := by
    rw [← h3, ← z2]; exact fown_lit gcell_len V2 (Nat.zero_le _) [(98, 0)] (by decide)
  have o3 : FOwn 46 1 pcell 0 V4 (.slice (some ⟨n + 2, 0, none⟩) 2 2) [(some ⟨n, 0, none⟩, 1, 1), (some ⟨n + 1, 0, none⟩, 1, 1)] := by
    rw [← h4, ← z3]; exact fown_lit pcell_len V3 (Nat.zero_le _) [(some ⟨n, 0, none⟩, 1, 1), (some ⟨n + 1, 0, none⟩, 1, 1)] (show (2 : Nat) ≤ maxLen from by decide)
  have o4 : FOwn 49 2 trcell 0 V5 (.slice (some ⟨n + 3, 0, none⟩) 1 1) [(false, (some ⟨n + 2, 0, none⟩, 2, 2))] := by
    rw [← h5, ← z4]; exact fown_lit trcell_len V4 (Nat.zero_le _) [(false, (some ⟨n + 2, 0, none⟩, 2, 2))] (show (1 : Nat) ≤ maxLen from by decide)
  have c5 := b5.trans (b6.mono b5.size)
  have c4 := b4.trans (c5.mono b4.size)
  have c3 := b3.trans (c4.mono b3.size)
  refine ⟨⟨[(false, (some ⟨n + 2, 0, none⟩, 2, 2))], rfl, own_al9 trcell_len o4 b6, fun i s r hs hr => ?_⟩, b2.trans (c3.mono b2.size)⟩
  rcases i with _ | i
  · simp [knM] at hs hr
    subst hs hr
    refine ⟨rfl, [(some ⟨n, 0, none⟩, 1, 1), (some ⟨n + 1, 0, none⟩, 1, 1)], rfl, own_al9 pcell_len o3 c5, fun i s r hs hr => ?_⟩
    rcases i with _ | _ | i
    · simp at hs hr
      subst hs hr
      exact own_al9 gcell_len o1 c3
    · simp at hs hr
      subst hs hr
      exact own_al9 gcell_len o2 c4
    · simp at hs
  · simp at hs
set_option maxRecDepth 100000 in
set_option maxHeartbeats 4000000 in
theorem known9_any : KnT := by
  intro w hU
  have HP : Hid (∀ W v, Below w.heap.size w W → Ss W v [[108, 32, 114, 46], [97, 9, 98]] → Calls Tryd.prog 15 #[.int .i64 1, v] W fun e w' => ∃ ra rn rc da dc, e = .returned (.tuple #[.agg #[.string ⟨#[108, 114]⟩, .slice ra rn rc, .bool false, .bool false], .slice da 0 dc]) ∧ Hid (TrS (fun b => b < w'.heap.size) w' (.slice ra rn rc) knM.rows) ∧ Hid (Below w.heap.size w w')) := Lib.hid fun W v hb hs => by
    refine (parse_any9 1 _ v W (by decide) (by decide) (hU.below hb) hs (by decide) (by decide)).mono ?_
    rintro e w' ⟨⟨ra, rn, rc⟩, vd, rfl, h1, h2, h3⟩
    rw [known_parse] at h1 h2 ⊢
    obtain ⟨da, dc, rfl⟩ := h2.len
    exact ⟨ra, rn, rc, da, dc, rfl, Lib.hid (h1.mono fun b q => q.2), Lib.hid (hb.trans (h3.mono hb.size))⟩
  go_enter Tryd.func6, Tryd.ntmps6
  have hs0 : Ss (w.alloc (.cells #[.string ⟨#[108, 32, 114, 46]⟩, .string ⟨#[97, 9, 98]⟩] 9)) (.slice (some ⟨w.heap.size, 0, none⟩) 2 2) [[108, 32, 114, 46], [97, 9, 98]] := fs_lit scell_len w 9 [[108, 32, 114, 46], [97, 9, 98]]
  have HP0 := Lib.hid (HP.out _ _ (below_lit w (.cells #[.string ⟨#[108, 32, 114, 46]⟩, .string ⟨#[97, 9, 98]⟩] 9)) hs0)
  go_wp2_with (go_at_call 15; refine HP0.out.mono ?_; rintro e V ⟨ra, rn, rc, da, dc, rfl, T1, B1⟩)
  obtain ⟨V1, hV1⟩ : ∃ V1, V.alloc (.cells #[.string ⟨#[108, 114]⟩, .slice ra rn rc, .bool false, .bool false] 36) = V1 := ⟨_, rfl⟩
  obtain ⟨V2, hV2⟩ : ∃ V2, V1.alloc (.cells #[.int .i32 97, .int .u8 0] 45) = V2 := ⟨_, rfl⟩
  obtain ⟨V3, hV3⟩ : ∃ V3, V2.alloc (.cells #[.int .i32 98, .int .u8 0] 45) = V3 := ⟨_, rfl⟩
  obtain ⟨V4, hV4⟩ : ∃ V4, V3.alloc (.cells #[.slice (some ⟨V.heap.size + 1, 0, none⟩) 1 1, .slice (some ⟨V.heap.size + 1 + 1, 0, none⟩) 1 1] 46) = V4 := ⟨_, rfl⟩
  obtain ⟨V5, hV5⟩ : ∃ V5, V4.alloc (.cells #[.bool false, .slice (some ⟨V.heap.size + 1 + 1 + 1, 0, none⟩) 2 2] 49) = V5 := ⟨_, rfl⟩
  obtain ⟨V6, hV6⟩ : ∃ V6, V5.alloc (.cells #[.string ⟨#[108, 114]⟩, .slice (some ⟨V.heap.size + 1 + 1 + 1 + 1, 0, none⟩) 1 1, .bool false, .bool false] 36) = V6 := ⟨_, rfl⟩
  have z1 : V1.heap.size = V.heap.size + 1 := by rw [← hV1]; simp
  have b1 : Below V.heap.size V V1 := by rw [← hV1]; exact below_lit V _
  obtain ⟨u1, u2⟩ := want9 V1 V2 V3 V4 V5 V6 (V.heap.size + 1) _ _ z1 hV2 hV3 hV4 hV5 hV6
  rw [hV1, hV2, hV3, hV4, hV5, hV6]
  have b6 := b1.trans (u2.mono b1.size)
  have t6 := (T1.out.keep (Kp.below b6 (fun b q => q)))
  have HS := Lib.hid (rsametable_any _ _ knM knM (ra, rn, rc) (some ⟨V.heap.size + 1 + 1 + 1 + 1, 0, none⟩, 1, 1) V6 t6 u1 (by decide) (by decide) (fun x q => Nat.lt_of_lt_of_le q b6.size) (fun x q => q))
  have HB := Lib.hid (B1.out.trans (b6.mono B1.out.size))
  clear u1 u2 b6 t6 b1 T1 HP HP0 hs0
  go_at_call 17
  refine HS.out.mono ?_
  rintro e V7 ⟨rfl, b7⟩
  have B7 := Lib.hid (HB.out.trans (b7.mono HB.out.size))
  clear b7
  go_wp2_with fail
  go_ret
  exact ⟨rfl, B7.out⟩
theorem implT9 : ImplT where
  cut := fun b w hb => cut9_any b w (by omega)
  look := fun b w hU hb => look_any b w hU (by omega)
  cols := fun b w hU hb => columns_any b w hU (by omega)
  parse := fun line L v w h0 h1 hU hS hl hL => parse_any9 line L v w h0 h1 hU hS hl hL
end Go.Proofs.YtaeplneiicobgaaDoor
