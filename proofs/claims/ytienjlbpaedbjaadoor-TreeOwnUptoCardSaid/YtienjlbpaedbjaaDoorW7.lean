/- Rows that the call owns: appends of runes and of bytes. The document's own bytes of a rune, of runes; its Sum. -/
import Derived.Test.YtienjlbpaedbjaaDoorW5
import Derived.Maps.AppendAt
import Derived.OwnWalk
namespace Go.Proofs.YtienjlbpaedbjaaDoor
open Go.RowKit

noncomputable def appB (args : Array Value) : Sem Next := do pure (.value (← Builtin.append_ #[99, 99] 99 args))
theorem builtin_appB (cs : Array Bool) (args : Array Value) : builtin .append #[99, 99] 99 cs args = appB args := rfl

/-- A row of the call's own, that reads as l. -/
def Own (base : Nat) (e : TypeId) (k : IntKind) (W : World) (x : Value) (l : List Int) : Prop := W.ownsRow base e 1 x l.length (l.map (Value.int k))
theorem Own.sl {base : Nat} {e : TypeId} {k : IntKind} {W : World} {x : Value} {l : List Int} (h : Own base e k W x l) : Sl k W x l := by
  rcases h.2 with ⟨rfl, h0⟩ | ⟨g, cap, cur, rfl, hb, hh, hn, _⟩
  · have : l = [] := List.eq_nil_of_length_eq_zero h0
    subst this
    exact ⟨none, 0, rfl, Nat.le_refl _, fun j z hj => by simp at hj⟩
  · refine ⟨_, _, rfl, hn, fun j z hj => ⟨g, 0, rfl, ?_⟩⟩
    have := World.ownsRow.cells (g := g) h rfl j (.int k z) (by simp [hj])
    rw [Addr.add_lit] at this
    exact this
theorem Own.nil (base : Nat) (e : TypeId) (k : IntKind) (W : World) : Own base e k W (.slice none 0 0) [] := World.ownsRow_nil _ _ _ _
theorem Own.below {base : Nat} {e : TypeId} {k : IntKind} {w0 W w' : World} {x : Value} {l : List Int} (h : Own base e k W x l) (hb : Below base w0 W) (hs : base ≤ W.heap.size) (hg : W.grownBy w' x.ownBlock) : Below base w0 w' :=
  hb.grown hg hs (fun j e => (World.ownsRow.lt h j e).1)
theorem Own.mono {base base' : Nat} {e : TypeId} {k : IntKind} {W : World} {x : Value} {l : List Int} (h : Own base e k W x l) (hb : base' ≤ base) : Own base' e k W x l := by
  refine ⟨h.1, ?_⟩
  rcases h.2 with h0 | ⟨g, cap, cur, e1, hg, r⟩
  · exact .inl h0
  · exact .inr ⟨g, cap, cur, e1, by omega, r⟩
theorem Own.keep {base : Nat} {e : TypeId} {k : IntKind} {W w' : World} {x : Value} {l : List Int} (h : Own base e k W x l) (hb : Below W.heap.size W w') : Own base e k w' x l := by
  refine ⟨h.1, ?_⟩
  rcases h.2 with h0 | ⟨g, cap, cur, e1, hg, hh, r⟩
  · exact .inl h0
  · exact .inr ⟨g, cap, cur, e1, hg, (hb.block g (Array.getElem?_eq_some_iff.1 hh).1).trans hh, r⟩

theorem infoR : (Tryd.prog.info? 21).map (fun i => (i.zero, i.size, i.bytes)) = some (some (.int .i32 0), 1, 4) := by kernel_rfl
theorem infoB : (Tryd.prog.info? 5).map (fun i => (i.zero, i.size, i.bytes)) = some (some (.int .u8 0), 1, 1) := by kernel_rfl
theorem ints_one {k : IntKind} (l : List Int) : ∀ u ∈ l.map (Value.int k), u.oneCell' = true := by
  intro u hu
  obtain ⟨z, _, rfl⟩ := List.mem_map.1 hu
  rfl

theorem appB_own {base : Nat} {W : World} {x u : Value} {l m : List Int} (h : Own base 5 .u8 W x l) (hu : Sl .u8 W u m) (hb : base ≤ W.heap.size) (hd : l.length + m.length ≤ 100000) :
    ∃ x' w', (appB #[x, u]).run Tryd.prog W = .ok (.value x') w' ∧ Own base 5 .u8 w' x' (l ++ m) ∧ W.grownBy w' x.ownBlock ∧ (x'.ownBlock = x.ownBlock ∨ x'.ownBlock = some W.heap.size) := by
  obtain ⟨i0, hi, hz0, hz1, hz2⟩ := info_parts infoB
  obtain ⟨a, cap, rfl, hcap, hc⟩ := hu
  rcases a with _ | a
  · obtain rfl : m = [] := by
      rcases m with _ | ⟨e, es⟩
      · rfl
      · obtain ⟨g, off, hg, _⟩ := hc 0 e rfl
        cases hg
    refine ⟨x, W, ?_, by simpa using h, ⟨rfl, rfl, rfl, Nat.le_refl _, fun _ _ _ => rfl⟩, .inl rfl⟩
    have hz : ∀ (b : Option Addr) (n c : Nat), n ≤ c → (appB #[.slice b n c, .slice none 0 cap]).run Tryd.prog W = .ok (.value (.slice b n c)) W := by
      intro b n c hnc
      unfold appB
      rcases b with _ | b
      · simp [Builtin.append_, run_underlying Tryd.underlying99, sizeOf, typeInfo, hi, Builtin.lenOf, Builtin.firstCells, hnc, Result.andThen]
      · simp [Builtin.append_, run_underlying Tryd.underlying99, sizeOf, typeInfo, hi, Builtin.lenOf, Builtin.firstCells, hnc, Result.andThen, storeCells]
    rcases h.2 with ⟨rfl, h0⟩ | ⟨g, cap', cur, rfl, hh⟩
    · exact hz none 0 0 (Nat.le_refl _)
    · exact hz _ _ _ hh.2.2.1
  · have hcells : ∀ j v, (m.map (Value.int .u8))[j]? = some v → W.cell? (a.add j) = some v := by
      intro j v hj
      simp only [List.getElem?_map, Option.map_eq_some_iff] at hj
      obtain ⟨z, hz, rfl⟩ := hj
      obtain ⟨g, off, hg, h0⟩ := hc j z hz
      obtain rfl := Option.some.inj hg
      rw [Addr.add_lit]
      exact h0
    obtain ⟨x', w', hr, ho, hg, _, hq⟩ := run_append_own_at (P := Tryd.prog) W base 99 99 5 i0 (.int .u8 0) 1 1 Tryd.underlying99 hi hz0 hz1 hz2 rfl (by decide) x l.length (l.map (Value.int .u8)) h a m.length cap (m.map (Value.int .u8)) (by simp) hcells (ints_one m) (by unfold maxLen; omega) (by omega) hb
    refine ⟨x', w', ?_, by unfold Own; rw [List.map_append, List.length_append]; exact ho, hg, hq⟩
    unfold appB
    simp only [Sem.run_bind, Sem.run_pure, Result.andThen_ok, hr]

/-- The row of a new literal is the call's own. -/
theorem own_lit {k : IntKind} {base : Nat} (w : World) (hb : base ≤ w.heap.size) (t : TypeId) (l : List Int) (hl : l.length ≤ maxLen) :
    Own base t k (w.alloc (.cells (l.map (Value.int k)).toArray t)) (.slice (some ⟨w.heap.size, 0, none⟩) l.length l.length) l :=
  ⟨by simp, .inr ⟨w.heap.size, l.length, _, rfl, hb, heap_alloc_new w _, Nat.le_refl _, hl, by simp, by simp only [Nat.mul_one]; exact List.take_of_length_le (by simp)⟩⟩
end Go.Proofs.YtienjlbpaedbjaaDoor
namespace Go.Proofs.YtienjlbpaedbjaaDoor
open Go.RowKit

theorem below_lit (w : World) (o : Obj) : Below w.heap.size w (w.alloc o) := (Below.refl _ w).alloc (Nat.le_refl _) _

def encZ (l : List Int) : List Int := (l.map Lib.encodeRuneZ).flatten
theorem encZ_len (l : List Int) : (encZ l).length ≤ 4 * l.length := by
  induction l with
  | nil => simp [encZ]
  | cons z l ih =>
    have := Lib.encodeRuneZ_length z
    have e : encZ (z :: l) = Lib.encodeRuneZ z ++ encZ l := by simp [encZ]
    rw [e]
    simp only [List.length_append, List.length_cons]
    omega
theorem encodeRune_ints (z : Int) : (Lib.encodeRune z).map (fun x => (x.toNat : Int)) = Lib.encodeRuneZ z := by
  have h := Lib.encodeRuneZ_byte z
  unfold Lib.encodeRune
  rw [List.map_map]
  conv => rhs; rw [← List.map_id (Lib.encodeRuneZ z)]
  apply List.map_congr_left
  intro x hx
  have := h x hx
  simp only [Function.comp, id]
  rw [show x.toNat.toUInt8 = UInt8.ofNat x.toNat from rfl, UInt8.toNat_ofNat']
  omega
theorem encZ_enc (l : List Int) : (enc l).map (fun x => (x.toNat : Int)) = encZ l := by
  induction l with
  | nil => rfl
  | cons z l ih =>
    have e : encZ (z :: l) = Lib.encodeRuneZ z ++ encZ l := by simp [encZ]
    rw [enc_cons, List.map_append, ih, e, encodeRune_ints]
theorem encZ_take {l : List Int} {j : Nat} {z : Int} (h : l[j]? = some z) : encZ (l.take (j + 1)) = encZ (l.take j) ++ Lib.encodeRuneZ z := by
  simp [encZ, List.take_add_one, h]

attribute [local go_sem ↓ high] builtin_appB
end Go.Proofs.YtienjlbpaedbjaaDoor
