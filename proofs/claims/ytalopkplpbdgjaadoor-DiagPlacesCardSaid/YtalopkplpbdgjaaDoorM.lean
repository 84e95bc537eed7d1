/- Plain mathematics of moves: a reach, how reaches join, and what an error in memory tells. -/
import Derived.Below
namespace Go.Proofs.YtalopkplpbdgjaaDoor
open Go.RowKit

abbrev D := Int × Int × Int
def clip (n : Int) : Int := min (max n 0) 1099511627775
def short (n : Int) : Int := min (max n (-1099511627775)) 1099511627775
def mv (ls cs : Int) (d : D) : D := (d.1, clip (d.2.1 + short ls), clip (d.2.2 + short cs))
structure Spot where
  a1 : Int
  l1 : Int
  h1 : Int
  a2 : Int
  l2 : Int
  h2 : Int
def Spot.ap (s : Spot) (d : D) : D := (d.1, min (max (d.2.1 + s.a1) s.l1) s.h1, min (max (d.2.2 + s.a2) s.l2) s.h2)
def Spot.within (s : Spot) (ls cs : Int) : Spot :=
  { a1 := short ls + s.a1, l1 := min (max s.a1 s.l1) s.h1, h1 := min (max (1099511627775 + s.a1) s.l1) s.h1,
    a2 := short cs + s.a2, l2 := min (max s.a2 s.l2) s.h2, h2 := min (max (1099511627775 + s.a2) s.l2) s.h2 }
def Spot.still : Spot := ⟨0, 0, 1099511627775, 0, 0, 1099511627775⟩
/-- A spot that k moves may have made. -/
structure Spot.Ok (s : Spot) (k : Nat) : Prop where
  a1 : -(k * 1099511627775) ≤ s.a1 ∧ s.a1 ≤ k * 1099511627775
  a2 : -(k * 1099511627775) ≤ s.a2 ∧ s.a2 ≤ k * 1099511627775
  o1 : s.l1 ≤ s.h1
  o2 : s.l2 ≤ s.h2
def inPlace (d : D) : Prop := 0 ≤ d.2.1 ∧ d.2.1 ≤ 1099511627775 ∧ 0 ≤ d.2.2 ∧ d.2.2 ≤ 1099511627775

theorem Spot.still_ok : Spot.still.Ok 0 := ⟨by simp [still], by simp [still], by simp [still], by simp [still]⟩
theorem Spot.within_ok {s : Spot} {k : Nat} (h : s.Ok k) (ls cs : Int) : (s.within ls cs).Ok (k + 1) := by
  obtain ⟨⟨p1, p2⟩, ⟨p3, p4⟩, o1, o2⟩ := h
  constructor <;> simp only [within, short] <;> omega
theorem Spot.still_ap {d : D} (h : inPlace d) : Spot.still.ap d = d := by
  obtain ⟨k, l, c⟩ := d
  simp only [inPlace] at h
  simp only [ap, still, Prod.mk.injEq, true_and]
  omega
theorem Spot.within_ap {s : Spot} {k : Nat} (hs : s.Ok k) (ls cs : Int) {d : D} (h : inPlace d) : (s.within ls cs).ap d = s.ap (mv ls cs d) := by
  obtain ⟨kk, l, c⟩ := d
  obtain ⟨_, _, o1, o2⟩ := hs
  simp only [inPlace] at h
  simp only [ap, within, mv, clip, short, Prod.mk.injEq, true_and]
  constructor <;> omega
theorem mv_inPlace (ls cs : Int) (d : D) : inPlace (mv ls cs d) := by
  simp only [inPlace, mv, clip]
  omega

/-- The value v is an error, of depth n at most, that tells ds. -/
def Er (w : World) : Nat → Value → List D → Prop
  | 0, _, _ => False
  | n + 1, v, ds =>
    (∃ (b : Nat) (k l c : Int), v = .iface 62 (.pointer (some ⟨b, 0, none⟩)) ∧ w.cell? ⟨b, 0, none⟩ = some (.int .i64 k) ∧ w.cell? ⟨b, 1, none⟩ = some (.int .i64 l) ∧ w.cell? ⟨b, 2, none⟩ = some (.int .i64 c) ∧ k ≠ 0 ∧ inPlace (k, l, c) ∧ ds = [(k, l, c)])
    ∨ (∃ (b : Nat) (tx : TypeId) (x : Value) (ls cs : Int) (ds' : List D), v = .iface 75 (.pointer (some ⟨b, 0, none⟩)) ∧ w.cell? ⟨b, 0, none⟩ = some (.iface tx x) ∧ w.cell? ⟨b, 1, none⟩ = some (.int .i64 ls) ∧ w.cell? ⟨b, 2, none⟩ = some (.int .i64 cs) ∧ Er w n (.iface tx x) ds' ∧ ds = ds'.map (mv ls cs))
    ∨ (∃ (b s cap : Nat) (es : List (TypeId × Value)) (dss : List (List D)), v = .iface 78 (.pointer (some ⟨b, 0, none⟩)) ∧ 0 < es.length ∧ es.length ≤ 1000 ∧ dss.length = es.length ∧ w.cell? ⟨b, 0, none⟩ = some (.slice (some ⟨s, 0, none⟩) es.length cap) ∧
        (∀ (j : Nat) (p : TypeId × Value), es[j]? = some p → w.cell? ⟨s, j, none⟩ = some (.iface p.1 p.2)) ∧ (∀ (j : Nat) (p : TypeId × Value) (d : List D), es[j]? = some p → dss[j]? = some d → Er w n (.iface p.1 p.2) d) ∧ ds = dss.flatten)

theorem Er.below {w w' : World} (h : Below w.heap.size w w') : ∀ {n : Nat} {v : Value} {ds : List D}, Er w n v ds → Er w' n v ds
  | n + 1, v, ds, he => by
    have hc : ∀ {b o : Nat} {u : Value}, w.cell? ⟨b, o, none⟩ = some u → w'.cell? ⟨b, o, none⟩ = some u := fun {b o u} hu =>
      (h.cell (p := ⟨b, o, none⟩) (World.block_lt_of_cell? w _ hu)).trans hu
    unfold Er at he ⊢
    rcases he with ⟨b, k, l, c, hv, h0, h1, h2, r⟩ | ⟨b, tx, x, ls, cs, ds', hv, h0, h1, h2, hr, hd⟩ | ⟨b, s, cap, es, dss, hv, hp, hm, hl, h0, hs, hr, hd⟩
    · exact .inl ⟨b, k, l, c, hv, hc h0, hc h1, hc h2, r⟩
    · exact .inr (.inl ⟨b, tx, x, ls, cs, ds', hv, hc h0, hc h1, hc h2, Er.below h hr, hd⟩)
    · exact .inr (.inr ⟨b, s, cap, es, dss, hv, hp, hm, hl, hc h0, fun j p hj => hc (hs j p hj), fun j p d hj hd' => Er.below h (hr j p d hj hd'), hd⟩)

theorem Er.inPlace {w : World} : ∀ {n : Nat} {v : Value} {ds : List D}, Er w n v ds → ∀ d ∈ ds, inPlace d
  | n + 1, v, ds, he => by
    unfold Er at he
    rcases he with ⟨b, k, l, c, hv, h0, h1, h2, hk, hp, rfl⟩ | ⟨b, tx, x, ls, cs, ds', hv, h0, h1, h2, hr, rfl⟩ | ⟨b, s, cap, es, dss, hv, hp, hm, hl, h0, hs, hr, rfl⟩
    · intro d hd
      obtain rfl := List.mem_singleton.1 hd
      exact hp
    · intro d hd
      obtain ⟨d', _, rfl⟩ := List.mem_map.1 hd
      exact mv_inPlace _ _ _
    · intro d hd
      obtain ⟨dl, hdl, hdd⟩ := List.mem_flatten.1 hd
      obtain ⟨j, hj⟩ := List.mem_iff_getElem?.1 hdl
      have hjl : j < es.length := by
        rcases Nat.lt_or_ge j dss.length with h1 | h1
        · omega
        · rw [List.getElem?_eq_none h1] at hj; cases hj
      exact Er.inPlace (hr j es[j] dl (List.getElem?_eq_getElem hjl) hj) d hdd

theorem Er.deeper {w : World} : ∀ {n m : Nat} {v : Value} {ds : List D}, n ≤ m → Er w n v ds → Er w m v ds
  | n + 1, m, v, ds, hm, he => by
    obtain ⟨m', rfl⟩ : ∃ m', m = m' + 1 := ⟨m - 1, by omega⟩
    unfold Er at he ⊢
    rcases he with h | ⟨b, tx, x, ls, cs, ds', hv, h0, h1, h2, hr, hd⟩ | ⟨b, s, cap, es, dss, hv, hp, hmx, hl, h0, hs, hr, hd⟩
    · exact .inl h
    · exact .inr (.inl ⟨b, tx, x, ls, cs, ds', hv, h0, h1, h2, Er.deeper (by omega) hr, hd⟩)
    · exact .inr (.inr ⟨b, s, cap, es, dss, hv, hp, hmx, hl, h0, hs, fun j p d hj hd' => Er.deeper (by omega) (hr j p d hj hd'), hd⟩)

theorem Er.ne_nil {w : World} : ∀ {n : Nat} {v : Value} {ds : List D}, Er w n v ds → ds ≠ []
  | n + 1, v, ds, he => by
    unfold Er at he
    rcases he with ⟨b, k, l, c, hv, h0, h1, h2, hk, hp, rfl⟩ | ⟨b, tx, x, ls, cs, ds', hv, h0, h1, h2, hr, rfl⟩ | ⟨b, s, cap, es, dss, hv, hp, hm, hl, h0, hs, hr, rfl⟩
    · simp
    · have := Er.ne_nil hr
      simpa using this
    · obtain ⟨d, hd⟩ : ∃ d, dss[0]? = some d := ⟨dss[0], List.getElem?_eq_getElem (by omega)⟩
      have := Er.ne_nil (hr 0 es[0] d (List.getElem?_eq_getElem hp) hd)
      intro h
      rw [List.flatten_eq_nil_iff] at h
      exact this (h d (List.mem_of_getElem? hd))
end Go.Proofs.YtalopkplpbdgjaaDoor
