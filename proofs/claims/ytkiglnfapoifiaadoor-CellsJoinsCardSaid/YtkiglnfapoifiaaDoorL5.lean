/- The walk of CellsJoins. -/
import Derived.Test.YtkiglnfapoifiaaDoorL4
namespace Go.Proofs.YtkiglnfapoifiaaDoor
open Go.RowKit

theorem bytes_app (x y : List UInt8) : (⟨x.toArray⟩ : ByteArray) ++ ⟨y.toArray⟩ = ⟨(x ++ y).toArray⟩ := by
  apply ByteArray.ext
  simp [ByteArray.data_append]
theorem rn_app (a b : List Gly) : rn (a ++ b) = rn a ++ rn b := by simp [rn]

set_option maxRecDepth 100000 in
set_option maxHeartbeats 4000000 in
theorem joinsL_any (bs bt : List UInt8) (s : Int) (la lb : List Gly) (va vb : Value) (w : World) (hT : Tabs w) (ha : Gs w va la) (hb : Gs w vb lb) (ms : bs.length ≤ 1000000000000000) (mt : bt.length ≤ 1000000000000000) (ma : la.length ≤ 1000000000000000) (mb : lb.length ≤ 1000000000000000) :
    Calls Tryd.prog 8 #[.string ⟨bs.toArray⟩, .string ⟨bt.toArray⟩, .int .u8 s, va, vb] w fun e W' => e = .returned (.bool true) ∧ Below w.heap.size w W' := by
  have HT := Lib.hid hT
  have HA := Lib.hid ha
  have HB := Lib.hid hb
  obtain ⟨aa, ca, rfl⟩ := ha.len
  obtain ⟨ab, cb, rfl⟩ := hb.len
  have hsz1 : (⟨bs.toArray⟩ : ByteArray).size = bs.length := by simp [Go.Lib.size_eq]
  have hsz2 : (⟨bt.toArray⟩ : ByteArray).size = bt.length := by simp [Go.Lib.size_eq]
  clear hT ha hb
  by_cases h1 : 800 < bs.length + bt.length
  · have HK := Lib.hid (known_any w HT.out)
    have hz : (800 : Int) < (bs.length : Int) + (bt.length : Int) := by omega
    go_enter Tryd.func8, Tryd.ntmps8
    go_wp2_with (go_at_call 10; refine HK.out.mono ?_; rintro e w' ⟨rfl, hb⟩)
    go_ret
    exact ⟨rfl, hb⟩
  · by_cases h2 : 400 < la.length + lb.length
    · have HK := Lib.hid (known_any w HT.out)
      have hz : ¬ (800 : Int) < (bs.length : Int) + (bt.length : Int) := by omega
      have hz2 : (400 : Int) < (la.length : Int) + (lb.length : Int) := by omega
      go_enter Tryd.func8, Tryd.ntmps8
      go_wp2_with (go_at_call 10; refine HK.out.mono ?_; rintro e w' ⟨rfl, hb⟩)
      go_ret
      exact ⟨rfl, hb⟩
    · have hz : ¬ (800 : Int) < (bs.length : Int) + (bt.length : Int) := by omega
      have hz2 : ¬ (400 : Int) < (la.length : Int) + (lb.length : Int) := by omega
      have HJ := Lib.hid (join_any la lb _ _ w HA.out HB.out (by omega))
      obtain ⟨J, hJ⟩ : ∃ J, la ++ lb = J := ⟨_, rfl⟩
      have hJl : J.length = la.length + lb.length := by rw [← hJ]; simp
      have hJg : gsm J = gsm la + gsm lb := by rw [← hJ]; exact gsm_app la lb
      have hJr : enc (rn J) = enc (rn la) ++ enc (rn lb) := by rw [← hJ, rn_app, enc_app]
      have hga := gsm_bd la
      have hgb := gsm_bd lb
      rw [hJ] at HJ
      have HTX := Lib.hid (fun W v l (hl : l.length ≤ 20000) (h : Gs W v l) => text_any l v W h hl)
      have HWD := Lib.hid (fun W v l (hl : l.length ≤ 20000) (hT : Tabs W) (h : Gs W v l) => gwidth_any l v W hT h (by omega))
      obtain ⟨GA, hGA⟩ : ∃ g, gsm la = g := ⟨_, rfl⟩
      obtain ⟨GB, hGB⟩ : ∃ g, gsm lb = g := ⟨_, rfl⟩
      rw [hGA, hGB] at hJg
      rw [hGA] at hga
      rw [hGB] at hgb
      have HGJ := Lib.hid hJg
      have HGA := Lib.hid hGA
      have HGB := Lib.hid hGB
      have HJR := Lib.hid hJr
      have hJl2 : J.length ≤ 400 := by omega
      have hla : la.length ≤ 400 := by omega
      have hlb : lb.length ≤ 400 := by omega
      obtain ⟨ga0, ga1⟩ := hga
      obtain ⟨gb0, gb1⟩ := hgb
      have ga2 : GA ≤ 800 := by omega
      have gb2 : GB ≤ 800 := by omega
      clear hJ hJl hJg hJr hGA hGB
      go_enter Tryd.func8, Tryd.ntmps8
      go_wp2_with fail
      refine HJ.out.mono ?_
      rintro e w1 ⟨u1, rfl, o1, b1⟩
      have S1 := Lib.hid (FOwn.sl gcell_len o1)
      have B1 := Lib.hid b1
      have HW1 := Lib.hid (HWD.out w1 u1 J (by omega) (HT.out.below b1) S1.out)
      rw [HGJ.out] at HW1
      clear o1 b1 HJ
      go_wp2_with fail
      refine HW1.out.mono ?_
      rintro e w2 ⟨rfl, b2⟩
      have C2 := Lib.hid b2
      have B2 := Lib.hid (B1.out.trans (b2.mono B1.out.size))
      have HW2 := Lib.hid (HWD.out w2 _ la (by omega) (HT.out.below B2.out) (Fs.below HA.out B2.out))
      rw [HGA.out] at HW2
      clear b2 HW1
      go_wp2_with fail
      refine HW2.out.mono ?_
      rintro e w3 ⟨rfl, b3⟩
      have C3 := Lib.hid (C2.out.trans (b3.mono C2.out.size))
      have B3 := Lib.hid (B2.out.trans (b3.mono B2.out.size))
      have HW3 := Lib.hid (HWD.out w3 _ lb (by omega) (HT.out.below B3.out) (Fs.below HB.out B3.out))
      rw [HGB.out] at HW3
      clear b3 HW2
      go_wp2_with fail
      refine HW3.out.mono ?_
      rintro e w4 ⟨rfl, b4⟩
      have C4 := Lib.hid (C3.out.trans (b4.mono C3.out.size))
      have B4 := Lib.hid (B3.out.trans (b4.mono B3.out.size))
      have HX1 := Lib.hid (HTX.out w4 u1 J (by omega) (Fs.below S1.out C4.out))
      clear b4 HW3 HWD
      go_wp2_with fail
      refine HX1.out.mono ?_
      rintro e w5 ⟨rfl, b5⟩
      have B5 := Lib.hid (B4.out.trans (b5.mono B4.out.size))
      have HX2 := Lib.hid (HTX.out w5 _ la (by omega) (Fs.below HA.out B5.out))
      clear b5 HX1
      go_wp2_with fail
      refine HX2.out.mono ?_
      rintro e w6 ⟨rfl, b6⟩
      have B6 := Lib.hid (B5.out.trans (b6.mono B5.out.size))
      have HX3 := Lib.hid (HTX.out w6 _ lb (by omega) (Fs.below HB.out B6.out))
      clear b6 HX2 HTX
      rw [HJR.out]
      go_wp2_with fail
      refine HX3.out.mono ?_
      rintro e w7 ⟨rfl, b7⟩
      have B7 := Lib.hid (B6.out.trans (b7.mono B6.out.size))
      clear b7 HX3
      obtain ⟨EA, hEA⟩ : ∃ x, enc (rn la) = x := ⟨_, rfl⟩
      obtain ⟨EB, hEB⟩ : ∃ x, enc (rn lb) = x := ⟨_, rfl⟩
      rw [hEA, hEB]
      have hEAl : EA.length ≤ 4 * la.length := by rw [← hEA]; have := enc_len (rn la); simp only [rn, List.length_map] at this ⊢; exact this
      have hEBl : EB.length ≤ 4 * lb.length := by rw [← hEB]; have := enc_len (rn lb); simp only [rn, List.length_map] at this ⊢; exact this
      have hse : (⟨EA.toArray⟩ : ByteArray).size = EA.length := by simp [Go.Lib.size_eq]
      have hse2 : (⟨EB.toArray⟩ : ByteArray).size = EB.length := by simp [Go.Lib.size_eq]
      have hap := bytes_app EA EB
      have hap2 := bytes_app bs bt
      obtain ⟨u8, w8, k8, s8, b8⟩ := bytes_of_str w7 bs
      have HD8 := Lib.hid (rdecode_any bs (by omega) u8 w8 s8)
      have hdl := dec_le bs
      have HI := Lib.hid (dec_i32 bs)
      have hap3 : (EA ++ EB == EA ++ EB) = true := by simp
      have HVA : Hid ((enc (dec bs) == bs) = true → (dec (bs ++ bt)).map (fun r => (r, s)) = (dec bs).map (fun r => (r, s)) ++ (dec bt).map (fun r => (r, s))) := Lib.hid (fun h => by
        have h' : enc (dec bs) = bs := by simpa using h
        rw [dec_app bs bt ((valid_iff _ bs (Nat.le_refl _)).2 h'), List.map_append])
      have HOS := Lib.hid (fun W => of_any bs s W (by omega))
      have HOT := Lib.hid (fun W => of_any bt s W (by omega))
      have hbt := dec_le bt
      have HOJ := Lib.hid (fun W => of_any (bs ++ bt) s W (by simp; omega))
      have hbst := dec_le (bs ++ bt)
      rw [List.length_append] at hbst
      obtain ⟨B, hB⟩ : ∃ B, (enc (dec bs) == bs) = B := ⟨_, rfl⟩
      rw [hB] at HVA
      obtain ⟨D, hD⟩ : ∃ D, dec bs = D := ⟨_, rfl⟩
      have hDl : (D.map fun r => (r, s)).length = D.length := by simp
      have hTl : ((dec bt).map fun r => (r, s)).length = (dec bt).length := by simp
      have hJl : ((dec (bs ++ bt)).map fun r => (r, s)).length = (dec (bs ++ bt)).length := by simp
      rw [hD] at hdl HD8 HI hB HVA HOS
      have HEN := Lib.hid (fun W u (h : Sl .i32 W u D) => rencode_any D (by omega) HI.out u W h)
      obtain ⟨E, hE⟩ : ∃ E, enc D = E := ⟨_, rfl⟩
      rw [hE] at hB HEN
      obtain ⟨M1, hM1⟩ : ∃ M, (D.map fun r => (r, s)) = M := ⟨_, rfl⟩
      obtain ⟨M2, hM2⟩ : ∃ M, ((dec bt).map fun r => (r, s)) = M := ⟨_, rfl⟩
      obtain ⟨M3, hM3⟩ : ∃ M, ((dec (bs ++ bt)).map fun r => (r, s)) = M := ⟨_, rfl⟩
      rw [hM1] at hDl HVA HOS
      rw [hM2] at hTl HVA HOT
      rw [hM3] at hJl HVA HOJ
      have m1 : M1.length ≤ 1000 := by omega
      have m2 : M2.length ≤ 1000 := by omega
      have m3 : M3.length ≤ 1000 := by omega
      have HB8 := Lib.hid b8
      clear hEA hEB hD hE hM1 hM2 hM3 hDl hTl hJl hbst hbt s8 b8
      go_wp2_with fail
      refine HD8.out.mono ?_
      rintro e w9 ⟨u9, rfl, s9, b9⟩
      have C9 := Lib.hid (HB8.out.trans (b9.mono HB8.out.size))
      have HE9 := Lib.hid (HEN.out w9 u9 s9)
      clear s9 b9 HD8 HEN
      go_wp2_with fail
      refine HE9.out.mono ?_
      rintro e w10 ⟨u10, rfl, s10, b10⟩
      have C10 := Lib.hid (C9.out.trans (b10.mono C9.out.size))
      have B10 := Lib.hid (B7.out.trans (C10.out.mono B7.out.size))
      have k10 := str_of_bytes s10
      clear s10 b10 HE9
      cases B with
      | false =>
        have HK := Lib.hid (known_any w10 (HT.out.below B10.out))
        go_wp2_with fail
        refine HK.out.mono ?_
        rintro e w11 ⟨rfl, b11⟩
        go_wp2_with fail
        go_ret
        exact ⟨rfl, B10.out.trans (b11.mono B10.out.size)⟩
      | true =>
        have H1 := Lib.hid (HOJ.out w10)
        rw [HVA.out rfl] at H1
        go_wp2_with fail
        refine H1.out.mono ?_
        rintro e w11 ⟨u11, rfl, o11, b11⟩
        have S11 := Lib.hid (FOwn.sl gcell_len o11)
        have B11 := Lib.hid (B10.out.trans (b11.mono B10.out.size))
        have H2 := Lib.hid (HOS.out w11)
        clear o11 b11 H1
        go_wp2_with fail
        refine H2.out.mono ?_
        rintro e w12 ⟨u12, rfl, o12, b12⟩
        have S12 := Lib.hid (FOwn.sl gcell_len o12)
        have D12 := Lib.hid b12
        have H3 := Lib.hid (HOT.out w12)
        clear o12 b12 H2
        go_wp2_with fail
        refine H3.out.mono ?_
        rintro e w13 ⟨u13, rfl, o13, b13⟩
        have D13 := Lib.hid (D12.out.trans (b13.mono D12.out.size))
        have H4 := Lib.hid (join_any M1 M2 u12 u13 w13 (Fs.below S12.out b13) (o13.sl gcell_len) (by omega))
        clear o13 b13 H3
        go_wp2_with fail
        refine H4.out.mono ?_
        rintro e w14 ⟨u14, rfl, o14, b14⟩
        have D14 := Lib.hid (D13.out.trans (b14.mono D13.out.size))
        have H5 := Lib.hid (rsameg_any (M1 ++ M2) (M1 ++ M2) u11 u14 w14 (Fs.below S11.out D14.out) (o14.sl gcell_len) (by simp; omega) (by simp; omega))
        rw [decide_eq_true (rfl : M1 ++ M2 = M1 ++ M2)] at H5
        have B14 := Lib.hid (B11.out.trans (D14.out.mono B11.out.size))
        clear o14 b14 H4
        go_wp2_with fail
        refine H5.out.mono ?_
        rintro e w15 ⟨rfl, b15⟩
        have B15 := Lib.hid (B14.out.trans (b15.mono B14.out.size))
        have HK := Lib.hid (known_any w15 (HT.out.below B15.out))
        clear b15 H5
        go_wp2_with fail
        refine HK.out.mono ?_
        rintro e w16 ⟨rfl, b16⟩
        go_wp2_with fail
        go_ret
        exact ⟨rfl, B15.out.trans (b16.mono B15.out.size)⟩
theorem joins_any (s t : ByteArray) (q : Int) (la lb : List Gly) (va vb : Value) (w : World) (hT : Tabs w) (ha : Gs w va la) (hb : Gs w vb lb) (ms : s.size ≤ 1000000000000000) (mt : t.size ≤ 1000000000000000) (ma : la.length ≤ 1000000000000000) (mb : lb.length ≤ 1000000000000000) :
    Calls Tryd.prog 8 #[.string s, .string t, .int .u8 q, va, vb] w fun e W' => e = .returned (.bool true) ∧ Below w.heap.size w W' := by
  have hs : (⟨s.data.toList.toArray⟩ : ByteArray) = s := by cases s; simp
  have ht : (⟨t.data.toList.toArray⟩ : ByteArray) = t := by cases t; simp
  have := joinsL_any s.data.toList t.data.toList q la lb va vb w hT ha hb (by rw [← Lib.size_eq]; exact ms) (by rw [← Lib.size_eq]; exact mt) ma mb
  rw [hs, ht] at this
  exact this
end Go.Proofs.YtkiglnfapoifiaaDoor
