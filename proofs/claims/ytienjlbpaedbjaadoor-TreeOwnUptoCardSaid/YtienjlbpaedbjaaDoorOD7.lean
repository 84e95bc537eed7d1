/- The document's own answer for documents: Count, Deep. The document's own answer for documents: how much there is of them. The document's own answer for documents: the same? rows of glyphs, rows of rows, tables. -/
import Derived.Test.YtienjlbpaedbjaaDoorOD4
import Derived.Test.YtienjlbpaedbjaaDoorG2
namespace Go.Proofs.YtienjlbpaedbjaaDoor
open Go.RowKit

theorem Kp.drewN (S : Nat → Prop) (w : World) (m : Nat) : Kp S w (w.drewN m) := fun b _ => (below_drewN (Below.refl (b + 1) w) m).block b (by omega)
theorem NsS.drewN {S : Nat → Prop} {w : World} {v : Value} {l : List Nd} (h : NsS S w v l) (m : Nat) : NsS S (w.drewN m) v l := h.keep (Kp.drewN S w m)
def RdN (x : Value) (w : World) (e : Ending) (w' : World) : Prop := e = .returned x ∧ ∃ m, w' = w.drewN m

set_option maxRecDepth 100000 in
set_option maxHeartbeats 2000000 in
theorem rcount_any (S : Nat → Prop) : ∀ (n : Nat) (l : List Nd), cntL l = n → n ≤ 1000000000 → ∀ (v : Value) (w : World), NsS S w v l → Calls Tryd.prog 35 #[v] w (RdN (.int .i64 (cntL l : Int)) w) := by
  intro n
  induction n using Nat.strongRecOn with
  | _ n IH =>
    intro l hn hb v w hv
    have HV := Lib.hid hv
    obtain ⟨aa, ca, rfl⟩ := hv.len
    have HI : Hid (∀ (k : List Nd), cntL k < n → ∀ (v : Value) (w : World), NsS S w v k → Calls Tryd.prog 35 #[v] w (RdN (.int .i64 (cntL k : Int)) w)) := Lib.hid (fun k hk => IH (cntL k) hk k rfl (by omega))
    have HT := Lib.hid (fun p => cnt_take l p)
    have hll := cnt_len l
    clear hv IH
    unfold RdN
    go_enter Tryd.func35, Tryd.ntmps35
    go_wp2_with fail
    go_loopw [3, 4] (fun s i wr => ∃ (p m : Nat), Hid (wr = w.drewN m) ∧ i = .int .i64 (p : Int) ∧ p ≤ l.length ∧ s = .int .i64 (cntL (l.take p) : Int)) (fun _ i _ => l.length - (intOf i).toNat)
    case atStart => exact ⟨0, 0, Lib.hid rfl, rfl, by omega, by simp [cntL]⟩
    case round =>
      obtain ⟨p, m, HW, rfl, hp, rfl⟩ := hrel
      by_cases hlt : p < l.length
      · obtain ⟨y, hy⟩ : ∃ y, l[p]? = some y := ⟨l[p], List.getElem?_eq_getElem hlt⟩
        have HN := Lib.hid (cnt_next hy)
        have hle := cnt_le hy
        have hlt' : (p : Int) < (l.length : Int) := by omega
        have hp0 : (0 : Int) ≤ (p : Int) := by omega
        obtain ⟨g, off, text, kids, rows, trows, rfl, hA⟩ := (HV.out.drewN m).at hy
        rw [← HW.out] at hA
        have c4 := hA.c4
        obtain ⟨c, hc⟩ : ∃ c, cntL (l.take p) = c := ⟨_, rfl⟩
        rw [hc] at hle HN
        obtain ⟨k, hk⟩ : ∃ k, cntL y.kids = k := ⟨_, rfl⟩
        have hR := HI.out y.kids (by omega) _ _ hA.kids
        rw [hk] at hle HN hR
        unfold RdN at hR
        have HR := Lib.hid hR
        have w1 : IntKind.i64.wrap ((c : Int) + 1) = (c : Int) + 1 := IntWalk.i64_in _ (by omega)
        have w2 : IntKind.i64.wrap ((c : Int) + 1 + (k : Int)) = (c : Int) + 1 + (k : Int) := IntWalk.i64_in _ (by omega)
        clear hA hR hy hk
        rw [hc]
        clear hc
        go_wp2_with fail
        refine HR.out.mono ?_
        rintro e w3 ⟨rfl, m3, hw3⟩
        have HW3 : Hid (w3 = w.drewN (m + m3)) := Lib.hid (by rw [hw3, HW.out, World.drewN_drewN])
        clear hw3 HR
        go_wp2_with fail
        go_roundw
        case rel => exact ⟨p + 1, m + m3, HW3, by go_num, by omega, by rw [HN.out]; first | rfl | (congr 1; omega)⟩
        case measure => (simp [intOf]; try omega)
      · obtain rfl : p = l.length := by omega
        have hlt' : ¬ (l.length : Int) < (l.length : Int) := by omega
        rw [List.take_length]
        go_wp2_with fail
        go_ret
        exact ⟨rfl, m, HW.out⟩
/-- 'max' of two numbers, kept whole. -/
noncomputable def mxS (args : Array Value) : Sem Next := do pure (.value (← Builtin.max_ #[3, 3] 3 args))
theorem builtin_mxS (cs : Array Bool) (args : Array Value) : builtin .max #[3, 3] 3 cs args = mxS args := rfl
theorem mxS_run (x y z : Int) (hz : (if y > x then y else x) = z) (w : World) : (mxS #[.int .i64 x, .int .i64 y]).run Tryd.prog w = .ok (.value (.int .i64 z)) w := by
  unfold mxS
  simp only [Sem.run_bind, Sem.run_pure, run_max_int2, Result.andThen_ok, hz]

attribute [local go_sem ↓ high] builtin_mxS
set_option maxRecDepth 100000 in
set_option maxHeartbeats 2000000 in
theorem rdeep_any (S : Nat → Prop) : ∀ (n : Nat) (l : List Nd), cntL l = n → n ≤ 1000000000 → ∀ (v : Value) (w : World), NsS S w v l → Calls Tryd.prog 23 #[v] w (RdN (.int .i64 (dpL l : Int)) w) := by
  intro n
  induction n using Nat.strongRecOn with
  | _ n IH =>
    intro l hn hb v w hv
    have HV := Lib.hid hv
    obtain ⟨aa, ca, rfl⟩ := hv.len
    have HI : Hid (∀ (k : List Nd), cntL k < n → ∀ (v : Value) (w : World), NsS S w v k → Calls Tryd.prog 23 #[v] w (RdN (.int .i64 (dpL k : Int)) w)) := Lib.hid (fun k hk => IH (cntL k) hk k rfl (by omega))
    have hll := cnt_len l
    clear hv IH
    unfold RdN
    go_enter Tryd.func23, Tryd.ntmps23
    go_wp2_with fail
    go_loopw [3, 4] (fun s i wr => ∃ (p m : Nat), Hid (wr = w.drewN m) ∧ i = .int .i64 (p : Int) ∧ p ≤ l.length ∧ s = .int .i64 (dpL (l.take p) : Int)) (fun _ i _ => l.length - (intOf i).toNat)
    case atStart => exact ⟨0, 0, Lib.hid rfl, rfl, by omega, by simp [dpL]⟩
    case round =>
      obtain ⟨p, m, HW, rfl, hp, rfl⟩ := hrel
      by_cases hlt : p < l.length
      · obtain ⟨y, hy⟩ : ∃ y, l[p]? = some y := ⟨l[p], List.getElem?_eq_getElem hlt⟩
        have HN := Lib.hid (dp_next hy)
        have hle := cnt_le hy
        have hd1 := dp_take l p
        have hd2 := dp_le hy
        have hd3 := dp_cntL l
        have hlt' : (p : Int) < (l.length : Int) := by omega
        have hp0 : (0 : Int) ≤ (p : Int) := by omega
        obtain ⟨g, off, text, kids, rows, trows, rfl, hA⟩ := (HV.out.drewN m).at hy
        rw [← HW.out] at hA
        have c4 := hA.c4
        obtain ⟨c, hc⟩ : ∃ c, dpL (l.take p) = c := ⟨_, rfl⟩
        rw [hc] at hd1 HN
        obtain ⟨k, hk⟩ : ∃ k, dpL y.kids = k := ⟨_, rfl⟩
        have hR := HI.out y.kids (by omega) _ _ hA.kids
        rw [hk] at hd2 HN hR
        unfold RdN at hR
        have HR := Lib.hid hR
        have w2 : IntKind.i64.wrap (1 + (k : Int)) = 1 + (k : Int) := IntWalk.i64_in _ (by omega)
        have mm := mxS_run (c : Int) (1 + (k : Int)) ((max c (1 + k) : Nat) : Int) (by split <;> omega)
        clear hA hR hy hk
        rw [hc]
        clear hc
        go_wp2_with fail
        refine HR.out.mono ?_
        rintro e w3 ⟨rfl, m3, hw3⟩
        have HW3 : Hid (w3 = w.drewN (m + m3)) := Lib.hid (by rw [hw3, HW.out, World.drewN_drewN])
        clear hw3 HR
        go_wp2_with fail
        go_roundw
        case rel => exact ⟨p + 1, m + m3, HW3, by go_num, by omega, by rw [HN.out]⟩
        case measure => (simp [intOf]; try omega)
      · obtain rfl : p = l.length := by omega
        have hlt' : ¬ (l.length : Int) < (l.length : Int) := by omega
        rw [List.take_length]
        go_wp2_with fail
        go_ret
        exact ⟨rfl, m, HW.out⟩
end Go.Proofs.YtienjlbpaedbjaaDoor
namespace Go.Proofs.YtienjlbpaedbjaaDoor
open Go.RowKit

theorem bsz (b : List UInt8) : (⟨b.toArray⟩ : ByteArray).size = b.length := by simp [Go.Lib.size_eq]
theorem NAt.keep {S : Nat → Prop} {w w' : World} {g o : Nat} {y : Nd} {text kids rows trows : PV} (h : NAt S w g o y text kids rows trows) (hk : Kp S w w') : NAt S w' g o y text kids rows trows :=
  have e : w'.heap[g]? = w.heap[g]? := hk g h.blk
  ⟨(World.cell?_of_block e).trans h.c0, (World.cell?_of_block e).trans h.c1, (World.cell?_of_block e).trans h.c2, (World.cell?_of_block e).trans h.c3, (World.cell?_of_block e).trans h.c4, (World.cell?_of_block e).trans h.c5, (World.cell?_of_block e).trans h.c6, (World.cell?_of_block e).trans h.c7, (World.cell?_of_block e).trans h.c8, (World.cell?_of_block e).trans h.c9,
   h.blk, h.text.keep hk, h.kids.keep hk, h.rows.keep hk, h.trows.keep hk⟩

set_option maxRecDepth 100000 in
set_option maxHeartbeats 4000000 in
theorem rlong_any (S : Nat → Prop) : ∀ (n : Nat) (l : List Nd), cntL l = n → nlL l ≤ 1000000000 → ∀ (v : Value) (w : World), NsS S w v l → Calls Tryd.prog 30 #[v] w (RdN (.int .i64 (nlL l : Int)) w) := by
  intro n
  induction n using Nat.strongRecOn with
  | _ n IH =>
    intro l hn hb v w hv
    have HV := Lib.hid hv
    obtain ⟨aa, ca, rfl⟩ := hv.len
    have HI : Hid (∀ (k : List Nd), cntL k < n → nlL k ≤ 1000000000 → ∀ (v : Value) (w : World), NsS S w v k → Calls Tryd.prog 30 #[v] w (RdN (.int .i64 (nlL k : Int)) w)) := Lib.hid (fun k hk hb => IH (cntL k) hk k rfl hb)
    have hll := cnt_len l
    have hnl := cnt_nlL l
    clear hv IH
    unfold RdN
    go_enter Tryd.func30, Tryd.ntmps30
    go_wp2_with fail
    go_loopw [3, 4] (fun s i wr => ∃ (p m : Nat), Hid (wr = w.drewN m) ∧ i = .int .i64 (p : Int) ∧ p ≤ l.length ∧ s = .int .i64 (nlL (l.take p) : Int)) (fun _ i _ => l.length - (intOf i).toNat)
    case atStart => exact ⟨0, 0, Lib.hid rfl, rfl, by omega, by simp [nlL]⟩
    case round =>
      obtain ⟨p, m, HW, rfl, hp, rfl⟩ := hrel
      by_cases hlt : p < l.length
      · obtain ⟨y, hy⟩ : ∃ y, l[p]? = some y := ⟨l[p], List.getElem?_eq_getElem hlt⟩
        have HN := Lib.hid (nl_next hy)
        have hle := nl_le hy
        have hcl := cnt_le hy
        have hlt' : (p : Int) < (l.length : Int) := by omega
        have hp0 : (0 : Int) ≤ (p : Int) := by omega
        obtain ⟨g, off, text, kids, rows, trows, rfl, hA⟩ := HV.out.at hy
        have HA0 := Lib.hid hA
        have HA : Hid (∀ m, NAt S (w.drewN m) g (off + p * 10) y text kids rows trows) := Lib.hid (fun m => hA.keep (Kp.drewN S w m))
        have hA1 : NAt S wr g (off + p * 10) y text kids rows trows := HW.out ▸ HA.out m
        have c3 := hA1.c3
        have c4 := hA1.c4
        have c6 := hA1.c6
        have hcs := bsz y.hd.grid.cols
        have hdd : hdl y.hd = 3 + y.hd.text.length + y.hd.grid.cols.length + (y.hd.rows.length + lens y.hd.rows) + trls y.hd.grid.rows := rfl
        obtain ⟨c, hc⟩ : ∃ c, nlL (l.take p) = c := ⟨_, rfl⟩
        rw [hc] at hle HN
        obtain ⟨k, hk⟩ : ∃ k, nlL y.kids = k := ⟨_, rfl⟩
        have HR : Hid (∀ q, Calls Tryd.prog 30 #[.slice kids.1 y.kids.length kids.2.2] (wr.drewN q) fun e w' => e = .returned (.int .i64 (k : Int)) ∧ ∃ m, w' = (wr.drewN q).drewN m) := Lib.hid (fun q => by
          have h := HI.out y.kids (by omega) (by omega) _ _ (hA1.kids.drewN q)
          rw [hk] at h
          exact h)
        rw [hk, hdd] at hle
        have HH := Lib.hid hdd
        obtain ⟨b0, hb0⟩ : ∃ b, c + 3 + y.hd.text.length + y.hd.grid.cols.length + k = b := ⟨_, rfl⟩
        have w0 : IntKind.i64.wrap ((c : Int) + 3) = (c : Int) + 3 := IntWalk.i64_in _ (by omega)
        have w1 : IntKind.i64.wrap ((c : Int) + 3 + (y.hd.text.length : Int)) = (c : Int) + 3 + (y.hd.text.length : Int) := IntWalk.i64_in _ (by omega)
        have w2 : IntKind.i64.wrap ((c : Int) + 3 + (y.hd.text.length : Int) + (y.hd.grid.cols.length : Int)) = (c : Int) + 3 + (y.hd.text.length : Int) + (y.hd.grid.cols.length : Int) := IntWalk.i64_in _ (by omega)
        have w3 : IntKind.i64.wrap ((c : Int) + 3 + (y.hd.text.length : Int) + (y.hd.grid.cols.length : Int) + (k : Int)) = (b0 : Int) := by
          rw [IntWalk.i64_in _ (by omega)]; omega
        clear hA hA1 hy hdd
        rw [hc]
        clear hc
        go_wp2_with fail
        go_quiet (first | (go_at_call 30; exact Calls.quiet_of (HR.out _)))
        generalize hwd : World.drewN wr _ = wd
        obtain ⟨m1, HW1⟩ : ∃ m1, Hid (wd = w.drewN m1) := ⟨_, Lib.hid (by rw [← hwd, HW.out, World.drewN_drewN])⟩
        clear hwd c3 c4 c6 w0 w1 w2 w3 HR hcs
        go_wp2_with fail
        go_loopw [3, 5] (fun s i wr => ∃ (q m : Nat), Hid (wr = w.drewN m) ∧ i = .int .i64 (q : Int) ∧ q ≤ y.hd.rows.length ∧ s = .int .i64 ((b0 + (q + lens (y.hd.rows.take q)) : Nat) : Int)) (fun _ i _ => y.hd.rows.length - (intOf i).toNat)
        case atStart => exact ⟨0, m1, HW1, rfl, by omega, by simp [lens]⟩
        case round =>
          obtain ⟨q, m2, HW2, rfl, hq, rfl⟩ := hrel
          have hA2 : NAt S wr g (off + p * 10) y text kids rows trows := HW2.out ▸ HA.out m2
          have c5 := hA2.c5
          have hli := lens_take y.hd.rows q
          by_cases hql : q < y.hd.rows.length
          · obtain ⟨r, hr⟩ : ∃ r, y.hd.rows[q]? = some r := ⟨y.hd.rows[q], List.getElem?_eq_getElem hql⟩
            have HLN := Lib.hid (lens_next hr)
            have hl2 := lens_le hr
            obtain ⟨g1, o1, b1, z1, he1, -, d0, -⟩ := hA2.rows.at hr
            rw [he1] at c5
            have hql' : (q : Int) < (y.hd.rows.length : Int) := by omega
            have hq0 : (0 : Int) ≤ (q : Int) := by omega
            obtain ⟨L, hL⟩ : ∃ L, b0 + (q + lens (y.hd.rows.take q)) = L := ⟨_, rfl⟩
            have HL := Lib.hid hL
            have w1 : IntKind.i64.wrap ((L : Int) + 1) = (L : Int) + 1 := IntWalk.i64_in _ (by omega)
            have w2 : IntKind.i64.wrap ((L : Int) + 1 + (r.length : Int)) = (L : Int) + 1 + (r.length : Int) := IntWalk.i64_in _ (by omega)
            clear hr he1 hA2
            rw [hL]
            clear hL
            go_wp2_with fail
            go_roundw
            case rel => exact ⟨q + 1, m2, HW2, by go_num, by omega, by rw [HLN.out]; have := HL.out; congr 1; omega⟩
            case measure => (simp [intOf]; try omega)
          · obtain rfl : q = y.hd.rows.length := by omega
            have hql' : ¬ (y.hd.rows.length : Int) < (y.hd.rows.length : Int) := by omega
            rw [List.take_length]
            obtain ⟨b1, hb1⟩ : ∃ b, b0 + (y.hd.rows.length + lens y.hd.rows) = b := ⟨_, rfl⟩
            rw [hb1]
            clear hA2 hli
            go_wp2_with fail
            go_loopw [3, 6] (fun s i wr => ∃ (q m : Nat), Hid (wr = w.drewN m) ∧ i = .int .i64 (q : Int) ∧ q ≤ y.hd.grid.rows.length ∧ s = .int .i64 ((b1 + trls (y.hd.grid.rows.take q) : Nat) : Int)) (fun _ i _ => y.hd.grid.rows.length - (intOf i).toNat)
            case atStart => exact ⟨0, m2, HW2, rfl, by omega, by simp [trls]⟩
            case round =>
              obtain ⟨q, m3, HW3, rfl, hq, rfl⟩ := hrel
              have hA3 : NAt S wr g (off + p * 10) y text kids rows trows := HW3.out ▸ HA.out m3
              have c7 := hA3.c7
              have hli := trls_take y.hd.grid.rows q
              have htn := trls_len y.hd.grid.rows
              by_cases hql : q < y.hd.grid.rows.length
              · obtain ⟨t, ht⟩ : ∃ t, y.hd.grid.rows[q]? = some t := ⟨y.hd.grid.rows[q], List.getElem?_eq_getElem hql⟩
                have HLN := Lib.hid (trls_next ht)
                have hl2 := trls_le ht
                obtain ⟨g1, o1, bb, z1, he1, -, d0, d1, hG⟩ := HA0.out.trows.at ht
                replace d1 : wr.cell? ⟨g1, o1 + q * 2 + 1, none⟩ = some (.slice bb t.2.length z1) := by
                  rw [HW3.out]
                  exact ((below_drewN (Below.refl (g1 + 1) w) m3).cell (p := ⟨g1, o1 + q * 2 + 1, none⟩) (by show g1 < g1 + 1; omega)).trans d1
                have HG : Hid (∀ m, GrS S (w.drewN m) (.slice bb t.2.length z1) t.2) := Lib.hid (fun m => hG.keep (Kp.drewN S w m))
                rw [he1] at c7
                have hql' : (q : Int) < (y.hd.grid.rows.length : Int) := by omega
                have hq0 : (0 : Int) ≤ (q : Int) := by omega
                have htl : trl t = 1 + t.2.length + lens t.2 := rfl
                have HTL := Lib.hid htl
                rw [htl] at hl2
                obtain ⟨L, hL⟩ : ∃ L, b1 + trls (y.hd.grid.rows.take q) = L := ⟨_, rfl⟩
                have HL := Lib.hid hL
                have w1 : IntKind.i64.wrap ((L : Int) + 1) = (L : Int) + 1 := IntWalk.i64_in _ (by omega)
                have w2 : IntKind.i64.wrap ((L : Int) + 1 + (t.2.length : Int)) = ((L + 1 + t.2.length : Nat) : Int) := by rw [IntWalk.i64_in _ (by omega)]; omega
                clear ht he1 hA3 hG d0 htl
                rw [hL]
                obtain ⟨L2, hL2⟩ : ∃ L2, L + 1 + t.2.length = L2 := ⟨_, rfl⟩
                rw [hL2] at w2
                have HL2 := Lib.hid hL2
                go_wp2_with fail
                clear w1 w2
                go_loopw [3, 8] (fun s i wr => ∃ (r m : Nat), Hid (wr = w.drewN m) ∧ i = .int .i64 (r : Int) ∧ r ≤ t.2.length ∧ s = .int .i64 ((L2 + lens (t.2.take r) : Nat) : Int)) (fun _ i _ => t.2.length - (intOf i).toNat)
                case atStart => exact ⟨0, m3, HW3, rfl, by omega, by simp [lens]⟩
                case round =>
                  obtain ⟨r, m4, HW4, rfl, hr4, rfl⟩ := hrel
                  have hG4 : GrS S wr (.slice bb t.2.length z1) t.2 := HW4.out ▸ HG.out m4
                  have hli4 := lens_take t.2 r
                  by_cases hrl : r < t.2.length
                  · obtain ⟨x, hx⟩ : ∃ x, t.2[r]? = some x := ⟨t.2[r], List.getElem?_eq_getElem hrl⟩
                    have HLN4 := Lib.hid (lens_next hx)
                    have hl4 := lens_le hx
                    obtain ⟨g4, o4, b4, z4, he4, -, e0, -⟩ := hG4.at hx
                    subst he4
                    have hrl' : (r : Int) < (t.2.length : Int) := by omega
                    have hr0 : (0 : Int) ≤ (r : Int) := by omega
                    obtain ⟨L3, hL3⟩ : ∃ L3, L2 + lens (t.2.take r) = L3 := ⟨_, rfl⟩
                    have HL3 := Lib.hid hL3
                    have w2 : IntKind.i64.wrap ((L3 : Int) + (x.length : Int)) = (L3 : Int) + (x.length : Int) := IntWalk.i64_in _ (by omega)
                    clear hx hG4
                    rw [hL3]
                    clear hL3
                    go_wp2_with fail
                    go_roundw
                    case rel => exact ⟨r + 1, m4, HW4, by go_num, by omega, by rw [HLN4.out]; have := HL3.out; congr 1; omega⟩
                    case measure => (simp [intOf]; try omega)
                  · obtain rfl : r = t.2.length := by omega
                    have hrl' : ¬ (t.2.length : Int) < (t.2.length : Int) := by omega
                    rw [List.take_length]
                    go_wp2_with fail
                    go_roundw
                    case rel => exact ⟨q + 1, m4, HW4, by go_num, by omega, by rw [HLN.out, HTL.out]; have := HL.out; have := HL2.out; congr 1; omega⟩
                    case measure => (simp [intOf]; try omega)
              · obtain rfl : q = y.hd.grid.rows.length := by omega
                have hql' : ¬ (y.hd.grid.rows.length : Int) < (y.hd.grid.rows.length : Int) := by omega
                rw [List.take_length]
                clear hA3
                go_wp2_with fail
                go_roundw
                case rel => exact ⟨p + 1, m3, HW3, by go_num, by omega, by rw [HN.out, HH.out, hk]; congr 1; omega⟩
                case measure => (simp [intOf]; try omega)
      · obtain rfl : p = l.length := by omega
        have hlt' : ¬ (l.length : Int) < (l.length : Int) := by omega
        rw [List.take_length]
        go_wp2_with fail
        go_ret
        exact ⟨rfl, m, HW.out⟩
end Go.Proofs.YtienjlbpaedbjaaDoor
namespace Go.Proofs.YtienjlbpaedbjaaDoor
open Go.RowKit

theorem FsS.drewN {α : Type} {S : Nat → Prop} {n : Nat} {f : α → List Value} {w : World} {v : Value} {l : List α} (h : FsS S n f w v l) (m : Nat) : FsS S n f (w.drewN m) v l := h.keep (Kp.drewN S w m)
theorem Gs.drewN {w : World} {v : Value} {l : List Gly} (h : Gs w v l) (m : Nat) : Gs (w.drewN m) v l := Fs.below h (below_drewN (Below.refl _ _) m)
theorem GrS.drewN {S : Nat → Prop} {w : World} {v : Value} {l : List (List Gly)} (h : GrS S w v l) (m : Nat) : GrS S (w.drewN m) v l := h.keep (Kp.drewN S w m)
theorem TrS.drewN {S : Nat → Prop} {w : World} {v : Value} {l : List Trow} (h : TrS S w v l) (m : Nat) : TrS S (w.drewN m) v l := h.keep (Kp.drewN S w m)
def QtN (b : Bool) (w : World) (e : Ending) (w' : World) : Prop := e = .returned (.bool b) ∧ ∃ m, w' = w.drewN m

set_option maxRecDepth 100000 in
set_option maxHeartbeats 1000000 in
theorem rsameq_any (a b : List Gly) (v u : Value) (w : World) (hv : Gs w v a) (hu : Gs w u b) (hl : a.length ≤ 1000000000) (hl' : b.length ≤ 1000000000) :
    Calls Tryd.prog 25 #[v, u] w (QtN (decide (a = b)) w) := by
  have HV := Lib.hid hv
  have HU := Lib.hid hu
  obtain ⟨aa, ca, rfl, -, -⟩ := hv
  obtain ⟨ab, cb, rfl, -, -⟩ := hu
  unfold QtN
  by_cases hlen : a.length = b.length
  · have HLen := Lib.hid hlen
    have hne : ((a.length : Int) != (b.length : Int)) = false := by simp [hlen]
    clear hlen
    go_enter Tryd.func25, Tryd.ntmps25
    go_wp2_with fail
    go_loopw [5] (fun i wr => ∃ j m : Nat, j ≤ a.length ∧ i = .int .i64 j ∧ Hid (a.take j = b.take j) ∧ Hid (wr = w.drewN m)) (fun i _ => a.length - (intOf i).toNat)
    case atStart => exact ⟨0, 0, by omega, rfl, Lib.hid rfl, Lib.hid rfl⟩
    case round =>
      obtain ⟨j, m, hj, rfl, HS, HW⟩ := hrel
      by_cases hlt : j < a.length
      · obtain ⟨x, hx⟩ : ∃ x, a[j]? = some x := ⟨a[j], List.getElem?_eq_getElem hlt⟩
        obtain ⟨y, hy⟩ : ∃ y, b[j]? = some y := ⟨b[j]'(by have := HLen.out; omega), List.getElem?_eq_getElem _⟩
        obtain ⟨g, off, rfl, c0, c1, -⟩ := Gs.at (Gs.drewN HV.out m) hx
        obtain ⟨g', off', rfl, c0', c1', -⟩ := Gs.at (Gs.drewN HU.out m) hy
        rw [← HW.out] at c0 c1 c0' c1'
        have hi0 : (j : Int) < (a.length : Int) := by omega
        have hi2 : (j : Int) < (b.length : Int) := by have := HLen.out; omega
        have hi1 : (0 : Int) ≤ (j : Int) := by omega
        by_cases hxy : x = y
        · subst hxy
          have HT := Lib.hid (take_same HS.out hx hy)
          have hq := neqG_same
          clear hx hy
          go_wp2_with fail
          go_quiet (fail)
          go_wp2
          go_roundw
          case rel => exact ⟨j + 1, _, by omega, by go_num, HT, Lib.hid (by rw [HW.out, World.drewN_drewN])⟩
          case measure => simp [intOf]; omega
        · have HT := Lib.hid (decide_eq_false (not_same hx hy hxy))
          have hq := neqG_other hxy
          clear hx hy hxy
          go_wp2_with fail
          go_quiet (fail)
          go_wp2
          go_ret
          exact ⟨ret_bool HT.out.symm, _, by rw [HW.out, World.drewN_drewN]⟩
      · obtain rfl : j = a.length := by omega
        have hs : a = b := by
          have h := HS.out
          rw [List.take_length, HLen.out, List.take_length] at h
          exact h
        have HT := Lib.hid (decide_eq_true hs)
        clear hs
        go_wp2_with fail
        go_ret
        exact ⟨ret_bool HT.out.symm, m, HW.out⟩
  · have hne : ((a.length : Int) != (b.length : Int)) = true := by simp; omega
    have HT := Lib.hid (decide_eq_false (show ¬ a = b from fun h => hlen (by rw [h])))
    clear hlen
    go_enter Tryd.func25, Tryd.ntmps25
    go_wp2_with fail
    go_ret
    exact ⟨ret_bool HT.out.symm, 0, rfl⟩

set_option maxRecDepth 100000 in
set_option maxHeartbeats 2000000 in
theorem rsamerows_any (S T : Nat → Prop) (a b : List (List Gly)) (v u : Value) (w : World) (hv : GrS S w v a) (hu : GrS T w u b) (hl : a.length + lens a ≤ 1000000000) (hl' : b.length + lens b ≤ 1000000000) :
    Calls Tryd.prog 39 #[v, u] w (QtN (decide (a = b)) w) := by
  have HV := Lib.hid hv
  have HU := Lib.hid hu
  obtain ⟨aa, ca, rfl⟩ := hv.len
  obtain ⟨ab, cb, rfl⟩ := hu.len
  clear hv hu
  unfold QtN
  by_cases hlen : a.length = b.length
  · have HLen := Lib.hid hlen
    have hne : ((a.length : Int) != (b.length : Int)) = false := by simp [hlen]
    clear hlen
    go_enter Tryd.func39, Tryd.ntmps39
    go_wp2_with fail
    go_loopw [5] (fun i wr => ∃ j m : Nat, j ≤ a.length ∧ i = .int .i64 j ∧ Hid (a.take j = b.take j) ∧ Hid (wr = w.drewN m)) (fun i _ => a.length - (intOf i).toNat)
    case atStart => exact ⟨0, 0, by omega, rfl, Lib.hid rfl, Lib.hid rfl⟩
    case round =>
      obtain ⟨j, m, hj, rfl, HS, HW⟩ := hrel
      by_cases hlt : j < a.length
      · obtain ⟨x, hx⟩ : ∃ x, a[j]? = some x := ⟨a[j], List.getElem?_eq_getElem hlt⟩
        obtain ⟨y, hy⟩ : ∃ y, b[j]? = some y := ⟨b[j]'(by have := HLen.out; omega), List.getElem?_eq_getElem _⟩
        obtain ⟨g, off, b1, z1, rfl, -, c0, h1⟩ := (HV.out.drewN m).at hx
        obtain ⟨g', off', b2, z2, rfl, -, c0', h2⟩ := (HU.out.drewN m).at hy
        rw [← HW.out] at c0 c0' h1 h2
        have lx := lens_le hx
        have ly := lens_le hy
        have hi0 : (j : Int) < (a.length : Int) := by omega
        have hi2 : (j : Int) < (b.length : Int) := by have := HLen.out; omega
        have hi1 : (0 : Int) ≤ (j : Int) := by omega
        have hR := fun q => rsameq_any x y _ _ (wr.drewN q) (Gs.drewN h1.1 q) (Gs.drewN h2.1 q) (by omega) (by omega)
        unfold QtN at hR
        by_cases hxy : x = y
        · have HT := Lib.hid (take_same HS.out hx (by rw [hxy]; exact hy))
          simp only [decide_eq_true hxy] at hR
          have HR := Lib.hid hR
          clear hx hy hR h1 h2 hxy lx ly
          go_wp2_with fail
          go_quiet (first | (go_at_call 25; exact Calls.quiet_of (HR.out _)))
          go_wp2
          go_roundw
          case rel => exact ⟨j + 1, _, by omega, by go_num, HT, Lib.hid (by rw [HW.out, World.drewN_drewN])⟩
          case measure => simp [intOf]; omega
        · have HT := Lib.hid (decide_eq_false (not_same hx hy hxy))
          simp only [decide_eq_false hxy] at hR
          have HR := Lib.hid hR
          clear hx hy hR h1 h2 hxy lx ly
          go_wp2_with fail
          go_quiet (first | (go_at_call 25; exact Calls.quiet_of (HR.out _)))
          go_wp2
          go_ret
          exact ⟨ret_bool HT.out.symm, _, by rw [HW.out, World.drewN_drewN]⟩
      · obtain rfl : j = a.length := by omega
        have hs : a = b := by
          have h := HS.out
          rw [List.take_length, HLen.out, List.take_length] at h
          exact h
        have HT := Lib.hid (decide_eq_true hs)
        clear hs
        go_wp2_with fail
        go_ret
        exact ⟨ret_bool HT.out.symm, m, HW.out⟩
  · have hne : ((a.length : Int) != (b.length : Int)) = true := by simp; omega
    have HT := Lib.hid (decide_eq_false (show ¬ a = b from fun h => hlen (by rw [h])))
    clear hlen
    go_enter Tryd.func39, Tryd.ntmps39
    go_wp2_with fail
    go_ret
    exact ⟨ret_bool HT.out.symm, 0, rfl⟩
end Go.Proofs.YtienjlbpaedbjaaDoor
