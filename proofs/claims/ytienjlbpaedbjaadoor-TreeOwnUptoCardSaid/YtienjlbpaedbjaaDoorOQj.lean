/- The program's own for documents: nodes put right; Tidy. The program's own for documents: Tidy. -/
import Derived.Test.YtienjlbpaedbjaaDoorOQh
namespace Go.Proofs.YtienjlbpaedbjaaDoor
open Go.RowKit

set_option maxRecDepth 100000 in
set_option maxHeartbeats 8000000 in
theorem pput_any (SI : Nat → Prop) (w0 : World) (lb : Nat) (hlb : w0.heap.size ≤ lb) (hSI : ∀ b, SI b → b < w0.heap.size) (hU : U8 w0) : ∀ (n : Nat) (l : List Nd), cntL l = n → nlL l ≤ 90000 → PutOk w0 lb SI l := by
  intro n
  induction n using Nat.strongRecOn with
  | _ n IH =>
    intro l hn hnl lv v acc base m d left w hv hbw hbase hN hB hc hl2 hd ha
    subst hn
    have HPO : Hid (∀ (q : List Nd), cntL q < cntL l → nlL q ≤ 90000 → PutOk w0 lb SI q) := Lib.hid (fun q hq hq2 => IH (cntL q) hq q rfl hq2)
    have hll := cnt_len l
    obtain ⟨W1, hW1⟩ : ∃ W, W = w.alloc (.cells (plcL m d lb).toArray 52) := ⟨_, rfl⟩
    have b1 : Below w.heap.size w W1 := by rw [hW1]; exact below_lit _ _
    have HP1 : Hid (Blk W1 w.heap.size 52 (plcL m d lb)) := Lib.hid (by rw [hW1]; exact heap_alloc_new w _)
    have HN1 := Lib.hid (hN.keep b1)
    have HB1 := Lib.hid (hB.below b1)
    have HZ : Hid (lb < w.heap.size) := Lib.hid hB.lt
    have HBW1 := Lib.hid (hbw.trans (b1.mono hbw.size))
    have HPF1 : Hid (PF lb base w W1) := Lib.hid (PF.of b1)
    have HOW1 : Hid (Ow lb v w v W1) := Lib.hid (fun b h1 _ h3 => ⟨b1.block b h1, h3⟩)
    have HV := Lib.hid hv
    have HSI := Lib.hid hSI
    have HLB := Lib.hid hlb
    have HBA := Lib.hid hbase
    have HU := Lib.hid hU
    have HSZ1 := Lib.hid b1.size
    obtain ⟨va, vc, rfl⟩ := hN.len
    obtain ⟨la, lc, rfl⟩ := hv.len
    unfold PutP
    simp only [plcL, cntF] at hW1 ⊢
    have HW1 := Lib.hid hW1
    have HOV := Lib.hid (fun (b : Nat) (hb : w.heap.size ≤ b) (e : (Value.slice va acc.length vc).ownBlock = some b) => (by obtain ⟨L, S, hL, -⟩ := hN.own; have := hL.blt e; omega : False))
    clear hv hbw hbase hN hB hlb hSI hU hW1 b1 IH
    go_enter Tryd.func32, Tryd.ntmps32
    go_wp2_with fail
    rw [← HW1.out]
    go_loopw [1, 11] (fun u i wr => ∃ (p : Nat), i = .int .i64 (p : Int) ∧ p ≤ l.length ∧ Hid (NInv FS base wr u (acc ++ tfL (l.take p) m d)) ∧ Hid (Blk wr lb 3 [.int .i64 ((left - cntL (l.take p) : Nat) : Int)]) ∧ Hid (PF lb base W1 wr) ∧ Hid (Ow lb (.slice va acc.length vc) W1 u wr)) (fun _ i _ => l.length - (intOf i).toNat)
    case atStart => exact ⟨0, rfl, by omega, by simpa [tfL_nil] using HN1, by simpa [cntL] using HB1, Lib.hid (PF.refl _ _ _), Lib.hid (Ow.refl _ _ _)⟩
    case round =>
      obtain ⟨p, rfl, hp, HN, HBK, HPF, HOW⟩ := hrel
      clear HN1 HB1
      obtain ⟨ua, uc, rfl⟩ := HN.out.len
      obtain ⟨un, hun⟩ : ∃ n, (acc ++ tfL (l.take p) m d).length = n := ⟨_, rfl⟩
      rw [hun] at HN HOW ⊢
      have HUN := Lib.hid hun
      by_cases hlt : p < l.length
      · obtain ⟨y, hy⟩ : ∃ y, l[p]? = some y := ⟨l[p], List.getElem?_eq_getElem hlt⟩
        have HCN := Lib.hid (cnt_next hy)
        have hle := cnt_le hy
        have hnle := nl_le hy
        have hul : un ≤ acc.length + cntL (l.take p) := by have := tfL_len (l.take p) m d; rw [← hun, List.length_append]; omega
        have hlt' : (p : Int) < (l.length : Int) := by omega
        have hp0 : (0 : Int) ≤ (p : Int) := by omega
        have hbr : Below w0.heap.size w0 wr := HBW1.out.trans (HPF.out.below HBW1.out.size HLB.out HBA.out)
        obtain ⟨g, off, x, rfl, hC, hH, hK⟩ := HV.out.atK (Kp.below hbr HSI.out) hy
        obtain ⟨yh, yks⟩ := y
        have hNX : Hid (¬ 20 ≤ d → tfL (l.take (p + 1)) m d = tfL (l.take p) m d ++ tfN (.mk yh yks) m d) := Lib.hid (fun h => tf_next hy m d h)
        simp only [Nd.hd, Nd.kids] at HCN hle hnle hH hK
        obtain ⟨wb, hwb⟩ : ∃ wb, wb = wr.alloc (.cells (ncell x).toArray 39) := ⟨_, rfl⟩
        have bb : Below wr.heap.size wr wb := by rw [hwb]; exact below_lit _ _
        have hPr : Blk wr w.heap.size 52 (plcL m d lb) := HPF.out.blk HP1.out (by have := HZ.out; omega) (by decide)
        have hPb := hPr.below bb
        have q2 : wb.cell? ⟨w.heap.size, 2, none⟩ = some (cntF lb) := hPb.cell 2
        have HC1 := Lib.hid (pcounts_any lb (left - cntL (l.take p)) wb (HBK.out.below bb) (by omega) (by omega))
        have HXN : Hid (Blk wb wr.heap.size 39 (ncell x)) := Lib.hid (by rw [hwb]; exact heap_alloc_new wr _)
        have HZN : Hid (wr.heap.size ≠ lb) := Lib.hid (fun e => by have := HBK.out.lt; omega)
        have HPB := Lib.hid hPb
        have HNB := Lib.hid (HN.out.keep bb)
        have HPFb := Lib.hid (HPF.out.trans (PF.of bb))
        have HOWb : Hid (Ow lb (.slice va acc.length vc) W1 (.slice ua un uc) wb) := Lib.hid (HOW.out.trans (Ow.exc (Exc.of bb)) HPF.out.size)
        have HKK := Lib.hid hK
        have HHH := Lib.hid hH
        obtain ⟨xk, xl, xn, ⟨t1, t2, t3⟩, ⟨k1, k2, k3⟩, ⟨r1, r2, r3⟩, xc, ⟨q1, q2', q3⟩, xb, xa⟩ := x
        have c0 := hC.c0
        have c1 := hC.c1
        have c2 := hC.c2
        have c3 := hC.c3
        have c4 := hC.c4
        have c5 := hC.c5
        have c6 := hC.c6
        have c7 := hC.c7
        have c8 := hC.c8
        have c9 := hC.c9
        simp only [ncell, pv, cntF] at hwb q2 HKK
        subst hwb
        clear hy hC hK hH bb hPr hPb hbr hun
        go_wp2_with fail
        refine HC1.out.mono ?_
        rintro e w3 ⟨rfl, hB3, hE3⟩
        have HB3 := Lib.hid hB3
        have HN3 := Lib.hid (HNB.out.exc HBA.out hE3)
        have HPF3 : Hid (PF lb base W1 w3) := Lib.hid (HPFb.out.trans (PF.exc hE3))
        have HOW3 : Hid (Ow lb (.slice va acc.length vc) W1 (.slice ua un uc) w3) := Lib.hid (HOWb.out.trans (Ow.exc hE3) HPFb.out.size)
        have hP3 := hE3.blk HPB.out (by have := HZ.out; omega)
        have p0 : w3.cell? ⟨w.heap.size, 0, none⟩ = some (.int .i64 m) := hP3.cell 0
        have p1 : w3.cell? ⟨w.heap.size, 1, none⟩ = some (.int .i64 (d : Int)) := hP3.cell 1
        have p2 : w3.cell? ⟨w.heap.size, 2, none⟩ = some (cntF lb) := hP3.cell 2
        have hX3 := hE3.blk HXN.out HZN.out
        have x4 : w3.cell? ⟨wr.heap.size, 4, none⟩ = some (.slice k1 k2 k3) := hX3.cell 4
        have hb3 : Below w0.heap.size w0 w3 := HBW1.out.trans (HPF3.out.below HBW1.out.size HLB.out HBA.out)
        simp only [cntF] at p2
        by_cases hdd : d = 20
        · have HDD := Lib.hid hdd
          have HLV := pleave_any SI w0 lb HLB.out HSI.out m d (cntL yks) yks rfl (left - cntL (l.take p) - 1) (.slice k1 k2 k3) w3 (by omega) (by omega) HKK.out hb3 HB3.out
          simp only [plcL, cntF] at HLV
          have HLV := Lib.hid HLV
          have e20 : ((d : Int) == 20) = true := by simp; omega
          clear hB3 hE3 hP3 hX3 hb3 HC1 c0 c1 c2 c3 c4 c5 c6 c7 c8 c9 q2 hdd
          go_wp2_with fail
          refine HLV.out.mono ?_
          rintro e w5 ⟨rfl, hB5, hE5⟩
          have HB5 := Lib.hid hB5
          have HN5 := Lib.hid (HN3.out.exc HBA.out hE5)
          have HPF5 : Hid (PF lb base W1 w5) := Lib.hid (HPF3.out.trans (PF.exc hE5))
          have HOW5 : Hid (Ow lb (.slice va acc.length vc) W1 (.slice ua un uc) w5) := Lib.hid (HOW3.out.trans (Ow.exc hE5) HPF3.out.size)
          clear hB5 hE5 HLV p0 p1 p2 x4
          go_wp2_with fail
          go_roundw
          case rel => exact ⟨p + 1, by go_num, by omega, Lib.hid (by have h := HN5.out; have e := HDD.out; rw [tfL_deep _ m d (by omega)] at h ⊢; exact h), Lib.hid (by rw [HCN.out, show left - (cntL (l.take p) + (1 + cntL yks)) = left - cntL (l.take p) - 1 - cntL yks by omega]; exact HB5.out), HPF5, HOW5⟩
          case measure => (simp [intOf]; try omega)
        · have HON := pone_any SI w0 lb HLB.out HSI.out HU.out ⟨xk, xl, xn, (t1, t2, t3), (k1, k2, k3), (r1, r2, r3), xc, (q1, q2', q3), xb, xa⟩ yh yks HHH.out HKK.out (by omega) (HPO.out yks (by omega) (by omega)) (.slice ua un uc) (acc ++ tfL (l.take p) m d) base m d (left - cntL (l.take p) - 1) w3 hb3 HBA.out HN3.out HB3.out (by omega) (by omega) (by omega) (by have := HUN.out; omega)
          unfold PutP at HON
          simp only [plcL, cntF, ncell, pv] at HON
          have HON := Lib.hid HON
          have e20 : ((d : Int) == 20) = false := by simp; omega
          have HDD : Hid (¬ 20 ≤ d) := Lib.hid (by omega)
          have x0 : w3.cell? ⟨wr.heap.size, 0, none⟩ = some (.int .i64 xk) := hX3.cell 0
          have x1 : w3.cell? ⟨wr.heap.size, 1, none⟩ = some (.int .i64 xl) := hX3.cell 1
          have x2 : w3.cell? ⟨wr.heap.size, 2, none⟩ = some (.int .i64 xn) := hX3.cell 2
          have x3 : w3.cell? ⟨wr.heap.size, 3, none⟩ = some (.slice t1 t2 t3) := hX3.cell 3
          have x5 : w3.cell? ⟨wr.heap.size, 5, none⟩ = some (.slice r1 r2 r3) := hX3.cell 5
          have x6 : w3.cell? ⟨wr.heap.size, 6, none⟩ = some (.string ⟨xc.toArray⟩) := hX3.cell 6
          have x7 : w3.cell? ⟨wr.heap.size, 7, none⟩ = some (.slice q1 q2' q3) := hX3.cell 7
          have x8 : w3.cell? ⟨wr.heap.size, 8, none⟩ = some (.bool xb) := hX3.cell 8
          have x9 : w3.cell? ⟨wr.heap.size, 9, none⟩ = some (.bool xa) := hX3.cell 9
          clear hB3 hE3 hP3 hX3 hb3 HC1 c0 c1 c2 c3 c4 c5 c6 c7 c8 c9 q2 hdd
          go_wp2_with fail
          refine HON.out.mono ?_
          rintro e w5 ⟨v5, rfl, hN5, hB5, hF5, hO5⟩
          have HB5 := Lib.hid hB5
          have HN5 := Lib.hid hN5
          have HPF5 : Hid (PF lb base W1 w5) := Lib.hid (HPF3.out.trans hF5)
          have HOW5 : Hid (Ow lb (.slice va acc.length vc) W1 v5 w5) := Lib.hid (HOW3.out.trans hO5 HPF3.out.size)
          clear hN5 hB5 hF5 hO5 HON p0 p1 p2 x0 x1 x2 x3 x4 x5 x6 x7 x8 x9
          go_wp2_with fail
          go_roundw
          case rel => exact ⟨p + 1, by go_num, by omega, Lib.hid (by rw [hNX.out HDD.out, ← List.append_assoc]; exact HN5.out), Lib.hid (by rw [HCN.out, show left - (cntL (l.take p) + (1 + cntL yks)) = left - cntL (l.take p) - 1 - cntL yks by omega]; exact HB5.out), HPF5, HOW5⟩
          case measure => (simp [intOf]; try omega)
      · obtain rfl : p = l.length := by omega
        have hlt' : ¬ (l.length : Int) < (l.length : Int) := by omega
        rw [List.take_length] at HN HBK
        clear hun HUN
        go_wp2_with fail
        go_ret
        refine ⟨_, rfl, HN.out, HBK.out, HPF1.out.trans HPF.out, fun b h1 h2 h3 => ?_⟩
        obtain ⟨q1, q2⟩ := HOW.out b (Nat.lt_of_lt_of_le h1 HSZ1.out) h2 h3
        exact ⟨q1.trans (HOW1.out b h1 h2 h3).1, q2⟩
end Go.Proofs.YtienjlbpaedbjaaDoor
namespace Go.Proofs.YtienjlbpaedbjaaDoor
open Go.RowKit

def TidyP (m : Nm) (l : List Nd) (w : World) (e : Ending) (w' : World) : Prop := ∃ s : PV, e = .returned (docV m (pv s)) ∧ NsS (fun b => w.heap.size ≤ b ∧ b < w'.heap.size) w' (pv s) l ∧ Below w.heap.size w w'
set_option maxRecDepth 100000 in
set_option maxHeartbeats 8000000 in
theorem ptidy_any (S : Nat → Prop) (m : Nm) (l : List Nd) (v : Value) (w : World) (hU : U8 w) (hb : nlL l ≤ 60000) (hv : NsS S w v l) (hS : ∀ x, S x → x < w.heap.size) :
    Calls Tryd.prog 12 #[docV m v] w (TidyP m (tidyL l) w) := by
  have hcl := cnt_nlL l
  obtain ⟨k1, z1, rfl⟩ := hv.len
  obtain ⟨w0, hw0⟩ : ∃ w0, w0 = (w.alloc (.cells (docL m (.slice k1 l.length z1)).toArray 24)).alloc (.cells ([.string ⟨#[]⟩, .string ⟨#[]⟩, .string ⟨#[]⟩, .string ⟨#[]⟩, .slice none 0 0] : List Value).toArray 24) := ⟨_, rfl⟩
  obtain ⟨bl, hbA, hbB⟩ := two_lits w _ _ w0 hw0
  have hz0 : w0.heap.size = w.heap.size + 1 + 1 := by rw [hw0, World.size_alloc, World.size_alloc]
  obtain ⟨W3, hW3⟩ : ∃ W, W = w0.alloc (.cells #[.int .i64 20000] 3) := ⟨_, rfl⟩
  have b3 : Below w0.heap.size w0 W3 := by rw [hW3]; exact below_lit _ _
  have hz3 : W3.heap.size = w.heap.size + 1 + 1 + 1 := by rw [hW3, World.size_alloc, hz0]
  have hL : Blk W3 (w.heap.size + 1 + 1) 3 [.int .i64 ((20000 : Nat) : Int)] := by
    have := heap_alloc_new w0 (.cells #[.int .i64 20000] 3)
    rw [hz0, ← hW3] at this
    exact this
  have bw3 : Below w.heap.size w W3 := bl.trans (b3.mono bl.size)
  have hput := pput_any S w (w.heap.size + 1 + 1) (by omega) hS hU (cntL l) l rfl (by omega) (.slice k1 l.length z1) (.slice none 0 0) [] W3.heap.size 0 0 20000 W3 hv bw3 (by omega) (NInv.nil (fun b q => q.elim) (Nat.le_refl _)) hL (by omega) (Nat.le_refl _) (by omega) (by simp; omega)
  rw [List.nil_append, tf_tidy (by omega)] at hput
  unfold PutP at hput
  simp only [plcL, cntF] at hput
  rw [show ((0 : Nat) : Int) = 0 from rfl] at hput
  have HPUT := Lib.hid hput
  obtain ⟨TL, hTL⟩ : ∃ T, tidyL l = T := ⟨_, rfl⟩
  rw [hTL] at HPUT ⊢
  have HA := Lib.hid (hbA.below b3)
  have HB := Lib.hid (hbB.below b3)
  have BW3 := Lib.hid bw3
  have HZ3 := Lib.hid hz3
  have c4 : W3.cell? ⟨w.heap.size, 4, none⟩ = some (.slice k1 l.length z1) := HA.out.cell 4
  unfold docV
  unfold docL at hw0 ⊢
  subst hw0
  have C4 := c4
  rw [hW3] at C4
  have HW3 := Lib.hid hW3
  clear hv hS hU bl hbA hbB hz0 hz3 b3 hL bw3 hput hTL hW3 hcl c4
  go_enter Tryd.func12, Tryd.ntmps12
  go_wp2_with fail
  rw [← HW3.out]
  refine HPUT.out.mono ?_
  rintro e w1 ⟨v1, rfl, hN1, hB1, hF1, -⟩
  obtain ⟨c1, c3, rfl⟩ := hN1.len
  obtain ⟨c2, hc2⟩ : ∃ n, TL.length = n := ⟨_, rfl⟩
  rw [hc2] at hN1 ⊢
  have A1 := hF1.blk HA.out (by omega) (by decide)
  have B1 := hF1.blk HB.out (by omega) (by decide)
  have f4 : w1.frozen? ⟨w.heap.size, 4, none⟩ = false := A1.frozen (by simp [docL])
  have g4 : w1.cell? ⟨w.heap.size, 4, none⟩ = some (.slice k1 l.length z1) := A1.cell 4
  have A2 := A1.set 4 (.slice c1 c2 c3)
  have B2 := Blk.other B1 (show w.heap.size + 1 ≠ w.heap.size by omega) 4 (.slice c1 c2 c3)
  have x0 : (w1.setCell ⟨w.heap.size, 4, none⟩ (.slice c1 c2 c3)).cell? ⟨w.heap.size, 0, none⟩ = some (.string ⟨m.a.toArray⟩) := A2.cell 0
  have x1 : (w1.setCell ⟨w.heap.size, 4, none⟩ (.slice c1 c2 c3)).cell? ⟨w.heap.size, 1, none⟩ = some (.string ⟨m.b.toArray⟩) := A2.cell 1
  have x2 : (w1.setCell ⟨w.heap.size, 4, none⟩ (.slice c1 c2 c3)).cell? ⟨w.heap.size, 2, none⟩ = some (.string ⟨m.c.toArray⟩) := A2.cell 2
  have x3 : (w1.setCell ⟨w.heap.size, 4, none⟩ (.slice c1 c2 c3)).cell? ⟨w.heap.size, 3, none⟩ = some (.string ⟨m.d.toArray⟩) := A2.cell 3
  have x4 : (w1.setCell ⟨w.heap.size, 4, none⟩ (.slice c1 c2 c3)).cell? ⟨w.heap.size, 4, none⟩ = some (.slice c1 c2 c3) := A2.cell 4
  have z0 : (w1.setCell ⟨w.heap.size, 4, none⟩ (.slice c1 c2 c3)).cell? ⟨w.heap.size + 1, 0, none⟩ = some (.string ⟨#[]⟩) := B2.cell 0
  have z1' : (w1.setCell ⟨w.heap.size, 4, none⟩ (.slice c1 c2 c3)).cell? ⟨w.heap.size + 1, 1, none⟩ = some (.string ⟨#[]⟩) := B2.cell 1
  have z2 : (w1.setCell ⟨w.heap.size, 4, none⟩ (.slice c1 c2 c3)).cell? ⟨w.heap.size + 1, 2, none⟩ = some (.string ⟨#[]⟩) := B2.cell 2
  have z3 : (w1.setCell ⟨w.heap.size, 4, none⟩ (.slice c1 c2 c3)).cell? ⟨w.heap.size + 1, 3, none⟩ = some (.string ⟨#[]⟩) := B2.cell 3
  have z4 : (w1.setCell ⟨w.heap.size, 4, none⟩ (.slice c1 c2 c3)).cell? ⟨w.heap.size + 1, 4, none⟩ = some (.slice none 0 0) := B2.cell 4
  have v0 : (w1.setCell ⟨w.heap.size, 4, none⟩ (.slice c1 c2 c3)).frozen? ⟨w.heap.size + 1, 0, none⟩ = false := B2.frozen (by simp)
  have v1 : (w1.setCell ⟨w.heap.size, 4, none⟩ (.slice c1 c2 c3)).frozen? ⟨w.heap.size + 1, 1, none⟩ = false := B2.frozen (by simp)
  have v2 : (w1.setCell ⟨w.heap.size, 4, none⟩ (.slice c1 c2 c3)).frozen? ⟨w.heap.size + 1, 2, none⟩ = false := B2.frozen (by simp)
  have v3 : (w1.setCell ⟨w.heap.size, 4, none⟩ (.slice c1 c2 c3)).frozen? ⟨w.heap.size + 1, 3, none⟩ = false := B2.frozen (by simp)
  have v4 : (w1.setCell ⟨w.heap.size, 4, none⟩ (.slice c1 c2 c3)).frozen? ⟨w.heap.size + 1, 4, none⟩ = false := B2.frozen (by simp)
  have B7 := ((((B2.set 0 (.string ⟨m.a.toArray⟩)).set 1 (.string ⟨m.b.toArray⟩)).set 2 (.string ⟨m.c.toArray⟩)).set 3 (.string ⟨m.d.toArray⟩)).set 4 (.slice c1 c2 c3)
  have H7 := Lib.hid B7
  have HSS := Lib.hid hN1.nss
  have HF1 := Lib.hid hF1
  clear A1 B1 A2 B2 B7 hN1 hB1 hF1 HPUT HA HB C4 hc2
  go_wp2_with fail
  have B7 := H7.out
  have k0 := B7.cell 0
  have k1 := B7.cell 1
  have k2 := B7.cell 2
  have k3 := B7.cell 3
  have k4 := B7.cell 4
  simp at k0 k1 k2 k3 k4
  refine bodyPost_ret (v := .agg #[.string ⟨m.a.toArray⟩, .string ⟨m.b.toArray⟩, .string ⟨m.c.toArray⟩, .string ⟨m.d.toArray⟩, .slice c1 c2 c3]) (by simp [results, Tryd.results12, go_sem, k0, k1, k2, k3, k4]) rfl ?_
  have hz := HZ3.out
  have h1 := HF1.out.size
  have hbel : Below w.heap.size w w1 := BW3.out.trans (HF1.out.below BW3.out.size (by omega) (by omega))
  refine ⟨(c1, c2, c3), rfl, ?_, ?_⟩
  · refine (HSS.out.keep (fun b q => ?_)).mono (fun b q => ?_)
    · have hb : b ≠ w.heap.size ∧ b ≠ w.heap.size + 1 := by
        rcases q with q | q
        · exact q.elim
        · omega
      simp only [Below.heap_setCell _ (⟨w.heap.size, _, none⟩ : Addr) _ b hb.1, Below.heap_setCell _ (⟨w.heap.size + 1, _, none⟩ : Addr) _ b hb.2]
    · simp only [szset]
      rcases q with q | q
      · exact q.elim
      · exact ⟨by omega, by omega⟩
  · refine ((((hbel.setCell ?_ _).setCell ?_ _).setCell ?_ _).setCell ?_ _).setCell ?_ _ |>.setCell ?_ _ <;> simp <;> omega
end Go.Proofs.YtienjlbpaedbjaaDoor
