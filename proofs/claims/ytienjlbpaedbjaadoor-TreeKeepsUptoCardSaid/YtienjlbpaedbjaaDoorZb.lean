/- The program's Leaves: each, over what a node has. -/
import Derived.Test.YtienjlbpaedbjaaDoorZa
namespace Go.Proofs.YtienjlbpaedbjaaDoor
open Go.RowKit

mutual
def alN : Nd → List Gly
  | .mk h ks => hdAll h ++ alL ks
def alL : List Nd → List Gly
  | [] => []
  | x :: l => alN x ++ alL l
end
mutual
theorem ink_alN : ∀ x : Nd, ink (alN x) = lvN x
  | .mk h ks => by simp only [alN, lvN, ink_app, ink_hd, ink_alL ks]
theorem ink_alL : ∀ l : List Nd, ink (alL l) = lvL l
  | [] => rfl
  | x :: l => by simp only [alL, lvL, ink_app, ink_alN x, ink_alL l]
end
mutual
theorem alN_len : ∀ x : Nd, (alN x).length ≤ nlN x
  | .mk h ks => by
    have h1 := hdAll_len h
    have h2 := alL_len ks
    simp only [alN, nlN, List.length_append]
    omega
theorem alL_len : ∀ l : List Nd, (alL l).length ≤ nlL l
  | [] => by simp [alL, nlL]
  | x :: l => by
    have h1 := alN_len x
    have h2 := alL_len l
    simp only [alL, nlL, List.length_append]
    omega
end
theorem alL_app : ∀ (a b : List Nd), alL (a ++ b) = alL a ++ alL b
  | [], b => by simp [alL]
  | x :: a, b => by simp only [List.cons_append, alL, alL_app a b, List.append_assoc]
theorem al_next {l : List Nd} {p : Nat} {y : Nd} (hy : l[p]? = some y) : alL (l.take (p + 1)) = alL (l.take p) ++ hdAll y.hd ++ alL y.kids := by
  obtain ⟨h, ks⟩ := y
  rw [List.take_add_one, hy, alL_app, List.append_assoc]
  simp [alL, alN, Nd.hd, Nd.kids]

abbrev takeV (rb : Nat) : Value := .func (.func 53) #[] #[.pointer (some ⟨rb, 0, none⟩)]
set_option maxRecDepth 100000 in
set_option maxHeartbeats 2000000 in
theorem eachl_any (rb tb base : Nat) (w0 : World) (hne : tb ≠ rb) : ∀ (n : Nat) (l : List Nd), cntL l = n → ∀ (S : Nat → Prop) (acc : List Gly) (v : Value) (w : World), Tk rb base w0 acc w → Blk w tb 73 [takeV rb] → NsS S w v l → (∀ b, S b → St rb base w b) → acc.length + nlL l ≤ 500000 →
    Calls Tryd.prog 51 #[.func (.func 54) #[] #[.pointer (some ⟨tb, 0, none⟩)], v] w fun e w' => e = .returned (.tuple #[]) ∧ Tk rb base w0 (acc ++ alL l) w' ∧ LF rb base w w' := by
  intro n
  induction n using Nat.strongRecOn with
  | _ n IH =>
    intro l hn S acc v w hT htb hv hS hl
    subst hn
    have HV := Lib.hid hv
    have HS := Lib.hid hS
    have HF := Lib.hid htb
    obtain ⟨aa, ca, rfl⟩ := hv.len
    have HI : Hid (∀ (m : List Nd), cntL m < cntL l → ∀ (S : Nat → Prop) (acc : List Gly) (v : Value) (w : World), Tk rb base w0 acc w → Blk w tb 73 [takeV rb] → NsS S w v m → (∀ b, S b → St rb base w b) → acc.length + nlL m ≤ 500000 →
      Calls Tryd.prog 51 #[.func (.func 54) #[] #[.pointer (some ⟨tb, 0, none⟩)], v] w fun e w' => e = .returned (.tuple #[]) ∧ Tk rb base w0 (acc ++ alL m) w' ∧ LF rb base w w') := Lib.hid (fun m hm => IH (cntL m) hm m rfl)
    have HT0 := Lib.hid hT
    have hll := cnt_len l
    have hcl := cnt_nlL l
    clear hv hS IH htb hT
    go_enter Tryd.func51, Tryd.ntmps51
    go_wp2_with fail
    go_loopw [8] (fun i wr => ∃ (p : Nat), i = .int .i64 (p : Int) ∧ p ≤ l.length ∧ Hid (Tk rb base w0 (acc ++ alL (l.take p)) wr) ∧ Hid (LF rb base w wr)) (fun i _ => l.length - (intOf i).toNat)
    case atStart => exact ⟨0, rfl, by omega, Lib.hid (by simpa [alL] using HT0.out), Lib.hid (LF.refl _ _ _)⟩
    case round =>
      obtain ⟨p, rfl, hp, HTr, HLr⟩ := hrel
      by_cases hlt : p < l.length
      · obtain ⟨y, hy⟩ : ∃ y, l[p]? = some y := ⟨l[p], List.getElem?_eq_getElem hlt⟩
        have HN := Lib.hid (al_next hy)
        have hle := cnt_le hy
        have hnl := nl_le hy
        have ha1 := alL_len (l.take p)
        have ha2 := hdAll_len y.hd
        have hlt' : (p : Int) < (l.length : Int) := by omega
        have hp0 : (0 : Int) ≤ (p : Int) := by omega
        obtain ⟨g, off, x, rfl, hC, hH, hK⟩ := (HV.out.keep (HLr.out.kp HS.out)).atC hy
        obtain ⟨X, hX⟩ : ∃ X, X = wr.alloc (.cells (ncell x).toArray 39) := ⟨_, rfl⟩
        have bX : Below wr.heap.size wr X := by rw [hX]; exact below_lit _ _
        have kX : Blk X wr.heap.size 39 (ncell x) := by rw [hX]; exact heap_alloc_new wr _
        have lX : LF rb base w X := HLr.out.trans (LF.of bX)
        have hSr : ∀ b, S b → St rb base wr b := fun b q => HLr.out.st (HS.out b q)
        have hSX : ∀ b, S b → St rb base X b := fun b q => lX.st (HS.out b q)
        have hkp : Kp S wr X := Kp.below bX fun b q => (hSr b q).1
        have hrb : wr.heap.size ≠ rb := by obtain ⟨v, h1, -⟩ := HTr.out.row; have := h1.lt; omega
        have hcall := leaves_any rb tb base w0 S x y.hd _ X (HTr.out.on bX) (lX.keepb HF.out hne (by decide)) hne (hH.keep hkp) hSX (by simp only [List.length_append]; omega)
        have HC := Lib.hid hcall
        have HKX := Lib.hid (hK.keep hkp)
        have HSX := Lib.hid hSX
        have HBX := Lib.hid kX
        have HLX := Lib.hid lX
        have HXW := Lib.hid hX
        obtain ⟨xk, xl, xn, ⟨t1, t2, t3⟩, ⟨k1, k2, k3⟩, ⟨r1, r2, r3⟩, xc, ⟨q1, q2, q3⟩, xb, xa⟩ := x
        have c0 := hC.c0
        have c1 := hC.c1
        have c2 := hC.c2
        have c3 := hC.c3
        have c4 := hC.c4
        have c5 := hC.c5
        have c6 := hC.c6
        have c7 := hC.c7
        have c8 := hC.c8
        have c9 := hC.c9
        simp only [ncell, pv] at HC HXW HBX HKX
        have d0 := HBX.out.cell 0
        have d1 := HBX.out.cell 1
        have d2 := HBX.out.cell 2
        have d3 := HBX.out.cell 3
        have d4 := HBX.out.cell 4
        have d5 := HBX.out.cell 5
        have d6 := HBX.out.cell 6
        have d7 := HBX.out.cell 7
        have d8 := HBX.out.cell 8
        have d9 := HBX.out.cell 9
        simp only [List.getElem?_cons_zero, List.getElem?_cons_succ] at d0 d1 d2 d3 d4 d5 d6 d7 d8 d9
        clear hy hC hH hK hX bX kX lX hSr hSX hkp hcall
        go_upto_region 3 with fail
        rw [← HXW.out]
        clear c0 c1 c2 c3 c4 c5 c6 c7 c8 c9
        go_wp2_with fail
        refine HC.out.mono ?_
        rintro e w3 ⟨rfl, hT3, hL3⟩
        have hL03 := HLX.out.trans hL3
        have x4 : w3.cell? ⟨wr.heap.size, 4, none⟩ = some (.slice k1 k2 k3) := (hL3.keepb HBX.out hrb (by decide)).cell 4
        have hR := HI.out y.kids (by omega) S _ (.slice k1 k2 k3) w3 hT3 (hL03.keepb HF.out hne (by decide)) (HKX.out.keep (hL3.kp HSX.out)) (fun b q => hL03.st (HS.out b q)) (by simp only [List.length_append]; omega)
        have HR := Lib.hid hR
        have HL3 := Lib.hid hL03
        clear hR hT3 hL3 hL03 HC d0 d1 d2 d3 d4 d5 d6 d7 d8 d9 HXW HKX HSX HBX HLX
        go_wp2_with fail
        refine HR.out.mono ?_
        rintro e w5 ⟨rfl, hT5, hL5⟩
        have HT5 := Lib.hid hT5
        have HL5 := Lib.hid (HL3.out.trans hL5)
        clear hT5 hL5 HR x4
        go_wp2_with fail
        go_roundw
        case rel => exact ⟨p + 1, by go_num, by omega, Lib.hid (by rw [HN.out, ← List.append_assoc, ← List.append_assoc]; exact HT5.out), HL5⟩
        case measure => (simp [intOf]; try omega)
      · obtain rfl : p = l.length := by omega
        have hlt' : ¬ (l.length : Int) < (l.length : Int) := by omega
        rw [List.take_length] at HTr
        go_wp2_with fail
        go_end0
        exact ⟨rfl, HTr.out, HLr.out⟩
end Go.Proofs.YtienjlbpaedbjaaDoor
