/- The walk of EscapeFonts. -/
import Derived.Test.YtdpakljfdfomfaaDoorLd
namespace Go.Proofs.YtdpakljfdfomfaaDoor
open Go.RowKit
attribute [local go_sem ↓ high] builtin_appT builtin_appDg binop_addS

def fnTab : List (List UInt8 × Int) := [([82], 0), ([66], 1), ([73], 2), ([80], 4), ([66, 73], 3)]
def fnL : List (List UInt8) := fnTab.map (·.1)
theorem fn_all : ∀ p ∈ fnTab, ftOf p.1 = some p.2 ∧ scanL 0 (dec ([92, 102, 91] ++ p.1 ++ [93])) = ([(3, p.2)], []) ∧ p.1.length ≤ 2 ∧ 0 ≤ p.2 ∧ p.2 ≤ 4 := by decide +kernel
theorem fn_four : ∀ p ∈ fnTab.take 4, scanL 0 (dec ([92, 102] ++ p.1)) = ([(3, p.2)], []) := by decide +kernel
theorem eqlD_any (k l m k' l' m' : Int) (w : World) : (binOp .eql 41 (.agg #[.int .i64 k, .int .i64 l, .int .i64 m]) (.agg #[.int .i64 k', .int .i64 l', .int .i64 m'])).run Tryd.prog w = .ok (.bool (k == k' && l == l' && m == m')) w := by
  rw [run_eql_struct, eqD]
  rfl
theorem esc_bad (n r : List Int) (hz : ∀ z ∈ n, z ≠ 93) (h : nmOf (enc n) = none) : stepL (92 :: 91 :: (n ++ 93 :: r)) = ([], [2], n.length + 3) := by
  have hn : nameL (91 :: (n ++ 93 :: r)) = some (n, n.length + 2) := by
    rw [nameL_cons, if_neg (by decide), if_pos rfl, ix_app n r hz]
    simp
  have hs : simC 91 = none := by decide
  have e : stepL (92 :: 91 :: (n ++ 93 :: r)) = escL (91 :: (n ++ 93 :: r)) := rfl
  rw [e]
  unfold escL
  simp only
  rw [hs]
  simp only
  rw [if_neg (by decide), if_neg (by decide), if_pos (by simp), hn]
  simp only
  rw [h]
/-- A name that is none, in brackets. -/
theorem bad_scan {s : List UInt8} (h : ∀ x ∈ s, 97 ≤ x.toNat ∧ x.toNat ≤ 122) (hn : nmOf s = none) : scanL 0 (dec ([92, 91] ++ s ++ [93])) = ([], [(2, 0, 1)]) := by
  have ha : ∀ c ∈ s, c.toNat < 128 ∧ c ≠ 93 := by
    intro c hc
    have := h c hc
    refine ⟨by omega, ?_⟩
    rintro rfl
    have e : (93 : UInt8).toNat = 93 := by decide
    omega
  have he := enc_asc s (fun c hc => (ha c hc).1)
  have hd := named_dec s [] ha
  rw [List.append_nil, dec_nil] at hd
  rw [hd]
  have hst := esc_bad (s.map fun x => (x.toNat : Int)) [] (ints_no ha) (by rw [he]; exact hn)
  have hdr : (92 :: 91 :: (s.map (fun x => (x.toNat : Int)) ++ [93])).drop ((s.map fun x => (x.toNat : Int)).length + 3) = [] := List.drop_eq_nil_of_le (by simp)
  rw [scanL_step 0 _ (by simp), hst]
  simp only
  rw [hdr, scanL_nil]
  rfl

set_option maxRecDepth 100000 in
set_option maxHeartbeats 16000000 in
theorem fontsL_any (k : Int) (hk0 : 0 ≤ k) (hk1 : k ≤ 255) (s : List UInt8) (w : World) (hM : Mx w) (ms : s.length ≤ maxLen) :
    Calls Tryd.prog 8 #[.int .u8 k, .string ⟨s.toArray⟩] w fun e W' => e = .returned (.bool true) ∧ Below w.heap.size w W' := by
  have HM := Lib.hid hM
  have hsz : (⟨s.toArray⟩ : ByteArray).size = s.length := by simp [Go.Lib.size_eq]
  have HI := Lib.hid (fun j x (h : s[j]? = some x) => str_idx s j x h)
  obtain ⟨n, hn⟩ : ∃ n : Nat, k % 5 = (n : Int) := ⟨(k % 5).toNat, by omega⟩
  have hn5 : n < 5 := by omega
  have hn2 : k.tmod 5 = (n : Int) := by rw [Int.tmod_eq_emod_of_nonneg hk0]; exact hn
  obtain ⟨p, hp⟩ : ∃ p, fnTab[n]? = some p := ⟨fnTab[n]'(by simpa [fnTab] using hn5), List.getElem?_eq_getElem _⟩
  obtain ⟨f1, f2, f3, f4, f5⟩ := fn_all p (List.mem_of_getElem? hp)
  have hp4 : n < 4 → scanL 0 (dec ([92, 102] ++ p.1)) = ([(3, p.2)], []) := fun h => fn_four p (List.mem_of_getElem? (i := n) (by rw [List.getElem?_take_of_lt h]; exact hp))
  obtain ⟨nm, fx⟩ := p
  simp only at f1 f2 f3 f4 f5 hp4
  have B1 := below_lit w (.cells #[.string ⟨#[82]⟩, .string ⟨#[66]⟩, .string ⟨#[73]⟩, .string ⟨#[80]⟩, .string ⟨#[66, 73]⟩] 9)
  have S1 : Hid (Fs 1 fstr (w.alloc (.cells #[.string ⟨#[82]⟩, .string ⟨#[66]⟩, .string ⟨#[73]⟩, .string ⟨#[80]⟩, .string ⟨#[66, 73]⟩] 9)) (.slice (some ⟨w.heap.size, 0, none⟩) 5 5) fnL) := Lib.hid (fs_lit fstr_len w 9 fnL)
  obtain ⟨W1, hW1⟩ : ∃ W1, w.alloc (.cells #[.string ⟨#[82]⟩, .string ⟨#[66]⟩, .string ⟨#[73]⟩, .string ⟨#[80]⟩, .string ⟨#[66, 73]⟩] 9) = W1 := ⟨_, rfl⟩
  rw [hW1] at B1 S1
  obtain ⟨g0, o0, he0, c0⟩ := S1.out.str (j := n) (s := nm) (by simp [fnL, hp])
  cases he0
  rw [Nat.zero_add] at c0
  have hget : ∀ h, ([.string ⟨#[82]⟩, .string ⟨#[66]⟩, .string ⟨#[73]⟩, .string ⟨#[80]⟩, .string ⟨#[66, 73]⟩] : List Value)[n]'h = .string ⟨nm.toArray⟩ := by
    intro h
    have e : ([.string ⟨#[82]⟩, .string ⟨#[66]⟩, .string ⟨#[73]⟩, .string ⟨#[80]⟩, .string ⟨#[66, 73]⟩] : List Value) = fnTab.map fun p => Value.string ⟨p.1.toArray⟩ := rfl
    have e2 : (fnTab.map fun p => Value.string ⟨p.1.toArray⟩)[n]? = some (.string ⟨nm.toArray⟩) := by rw [List.getElem?_map, hp]; rfl
    rw [← e] at e2
    rw [List.getElem?_eq_getElem h] at e2
    exact Option.some.inj e2
  have HB1 := Lib.hid B1
  have HW1 := Lib.hid hW1
  have HF := Lib.hid (fun W => font_any nm W)
  rw [f1] at HF
  simp only [Option.getD_some, Option.isSome_some] at HF
  have HS := Lib.hid (fun W => scan_any ([92, 102, 91] ++ nm ++ [93]) W (by simp; omega))
  unfold ScanEnd at HS
  rw [f2] at HS
  have HS4 : Hid (n < 4 → ∀ W, Calls Tryd.prog 11 #[.string ⟨([92, 102] ++ nm).toArray⟩] W fun e w' => ∃ vt vd, e = .returned (.tuple #[vt, vd]) ∧ TOwn W.heap.size w' vt [(3, fx)] ∧ DOwn W.heap.size w' vd [] ∧ Below W.heap.size W w') := Lib.hid (fun h W => by
    have := scan_any ([92, 102] ++ nm) W (by simp; omega)
    unfold ScanEnd at this
    rw [hp4 h] at this
    exact this)
  have k1 := str_add [92, 102, 91] nm (by simp; omega)
  have k2 := str_add ([92, 102, 91] ++ nm) [93] (by simp; omega)
  have k3 := str_add [92, 102] nm (by simp; omega)
  obtain ⟨y1, hy1⟩ : ∃ y, [92, 102, 91] ++ nm = y := ⟨_, rfl⟩
  rw [hy1] at k1 k2 HS
  obtain ⟨y2, hy2⟩ : ∃ y, y1 ++ [93] = y := ⟨_, rfl⟩
  rw [hy2] at k2 HS
  obtain ⟨y3, hy3⟩ : ∃ y, [92, 102] ++ nm = y := ⟨_, rfl⟩
  rw [hy3] at k3 HS4
  have k1' : ∀ W, (addS (.string ⟨#[92, 102, 91]⟩) (.string ⟨nm.toArray⟩)).run Tryd.prog W = .ok (.string ⟨y1.toArray⟩) W := k1
  have k2' : ∀ W, (addS (.string ⟨y1.toArray⟩) (.string ⟨#[93]⟩)).run Tryd.prog W = .ok (.string ⟨y2.toArray⟩) W := k2
  have k3' : ∀ W, (addS (.string ⟨#[92, 102]⟩) (.string ⟨nm.toArray⟩)).run Tryd.prog W = .ok (.string ⟨y3.toArray⟩) W := k3
  have hi0 : (n : Int) < 5 := by omega
  have hi1 : (0 : Int) ≤ (n : Int) := by omega
  clear hM hp f1 f2 f3 hp4 hW1 B1 k1 k2 k3 hy1 hy2 hy3
  go_enter Tryd.func8, Tryd.ntmps8
  go_wp2_with fail
  rw [HW1.out]
  refine (HF.out _).mono ?_
  rintro e w' ⟨rfl, rfl⟩
  have HS1 := Lib.hid (HS.out W1)
  clear HF HS
  go_wp2_with fail
  refine HS1.out.mono ?_
  rintro e w2 ⟨vt, vd, rfl, o1, o2, b2⟩
  have B2 := Lib.hid (HB1.out.trans (b2.mono HB1.out.size))
  have c02 : w2.cell? ⟨w.heap.size, n, none⟩ = some (.string ⟨nm.toArray⟩) := (b2.cell (p := ⟨w.heap.size, n, none⟩) (World.block_lt_of_cell? _ _ c0)).trans c0
  obtain ⟨at_, ct, rfl⟩ := (FOwn.sl tcell_len o1).len
  obtain ⟨ad, cd, rfl⟩ := (FOwn.sl dcell_len o2).len
  have bl := below_lit w2 (.cells #[.int .i64 3, .int .i32 fx] 38)
  have SW : Hid (Ts (w2.alloc (.cells #[.int .i64 3, .int .i32 fx] 38)) (.slice (some ⟨w2.heap.size, 0, none⟩) 1 1) [(3, fx)]) := Lib.hid (fs_lit tcell_len w2 38 [(3, fx)])
  have hc03 := (bl.cell (p := ⟨w.heap.size, n, none⟩) (World.block_lt_of_cell? _ _ c02)).trans c02
  have S2 := Lib.hid (Fs.below (FOwn.sl tcell_len o1) bl)
  have B3 := Lib.hid (B2.out.trans (bl.mono B2.out.size))
  obtain ⟨W3, hW3⟩ : ∃ W3, w2.alloc (.cells #[.int .i64 3, .int .i32 fx] 38) = W3 := ⟨_, rfl⟩
  rw [hW3] at SW hc03 S2 B3
  have HW3 := Lib.hid hW3
  have HE := Lib.hid (rsamet_any [(3, fx)] [(3, fx)] _ _ W3 S2.out SW.out (by simp) (by simp))
  rw [decide_eq_true (rfl : ([(3, fx)] : List Tok) = [(3, fx)])] at HE
  have hc03' : W3.cell? ⟨w.heap.size, n, none⟩ = some (.string ⟨nm.toArray⟩) := hc03
  clear o1 o2 b2 bl hc03 hW3 HS1 c0 c02
  go_wp2_with fail
  rw [HW3.out]
  refine HE.out.mono ?_
  rintro e w4 ⟨rfl, b4⟩
  have B4 := Lib.hid (B3.out.trans (b4.mono B3.out.size))
  have c04 : w4.cell? ⟨w.heap.size, n, none⟩ = some (.string ⟨nm.toArray⟩) := (b4.cell (p := ⟨w.heap.size, n, none⟩) (World.block_lt_of_cell? _ _ hc03')).trans hc03'
  have SW4 := Lib.hid (Fs.below SW.out b4)
  clear b4 HE hc03' SW S2
  by_cases h4 : n < 4
  · have hz4 : (n : Int) < 4 := by omega
    have HS5 := Lib.hid (HS4.out h4 w4)
    clear h4 HS4
    go_wp2_with fail
    refine HS5.out.mono ?_
    rintro e w5 ⟨vt, vd, rfl, o1, o2, b5⟩
    have B5 := Lib.hid (B4.out.trans (b5.mono B4.out.size))
    obtain ⟨at5, ct5, rfl⟩ := (FOwn.sl tcell_len o1).len
    obtain ⟨ad5, cd5, rfl⟩ := (FOwn.sl dcell_len o2).len
    have HE := Lib.hid (rsamet_any [(3, fx)] [(3, fx)] _ _ w5 (FOwn.sl tcell_len o1) (Fs.below SW4.out b5) (by simp) (by simp))
    rw [decide_eq_true (rfl : ([(3, fx)] : List Tok) = [(3, fx)])] at HE
    clear o1 o2 b5 HS5
    go_wp2_with fail
    refine HE.out.mono ?_
    rintro e wB ⟨rfl, b6⟩
    have BB := Lib.hid (B5.out.trans (b6.mono B5.out.size))
    clear b6 HE c04 SW4
    have hsb : s.length ≤ 9223372036854775807 := by have := ms; unfold maxLen at this; omega
    go_wp2_with fail
    go_loopw [14] (fun i wr => ∃ j : Nat, j ≤ s.length ∧ i = .int .i64 j ∧ wr = wB ∧ ∀ x ∈ s.take j, 97 ≤ x.toNat ∧ x.toNat ≤ 122) (fun i _ => s.length - (intOf i).toNat)
    case atStart => exact ⟨0, by omega, rfl, rfl, by simp⟩
    case round =>
      obtain ⟨j, hj, rfl, rfl, hall⟩ := hrel
      have HALL := Lib.hid hall
      have HK := Lib.hid (known_any wr (HM.out.below BB.out))
      clear hall
      by_cases hlt : j < s.length
      · obtain ⟨x, hx⟩ : ∃ x, s[j]? = some x := ⟨s[j], List.getElem?_eq_getElem hlt⟩
        have k1 := HI.out j x hx
        have hi0 : (j : Int) < (s.length : Int) := by omega
        have hi1 : (0 : Int) ≤ (j : Int) := by omega
        by_cases h97 : 97 ≤ x.toNat
        · have hq : ¬ (x.toNat : Int) < 97 := by omega
          by_cases h122 : x.toNat ≤ 122
          · have hq2 : ¬ (122 : Int) < (x.toNat : Int) := by omega
            have HN := Lib.hid (mem_next (P := fun y => 97 ≤ y.toNat ∧ y.toNat ≤ 122) HALL.out hx ⟨h97, h122⟩)
            clear hx h97 h122
            go_wp2_with fail
            go_roundw
            case rel => exact ⟨j + 1, by omega, by go_num, by first | trivial | rfl, HN.out⟩
            case measure => simp [intOf]; omega
          · have hq2 : (122 : Int) < (x.toNat : Int) := by omega
            clear hx h97 h122
            go_wp2_with (go_at_call 10; refine HK.out.mono ?_; rintro e w' ⟨rfl, hb⟩)
            go_ret
            exact ⟨rfl, BB.out.trans (hb.mono BB.out.size)⟩
        · have hq : (x.toNat : Int) < 97 := by omega
          clear hx h97
          go_wp2_with (go_at_call 10; refine HK.out.mono ?_; rintro e w' ⟨rfl, hb⟩)
          go_ret
          exact ⟨rfl, BB.out.trans (hb.mono BB.out.size)⟩
      · obtain rfl : j = s.length := by omega
        have hall : ∀ x ∈ s, 97 ≤ x.toNat ∧ x.toNat ≤ 122 := by have := HALL.out; rw [List.take_length] at this; exact this
        have HRN := Lib.hid (rnameS_any s wr ms)
        clear HALL HI HK
        cases hn : nmOf s with
        | some x =>
          have hxb := nmOf_bd hn
          rw [hn] at HRN
          simp only [Option.getD_some] at HRN
          have hx0 : 0 ≤ x := hxb.1
          have hx1 : decide (0 ≤ x) = true := by simpa using hx0
          clear hn hxb
          go_wp2_with fail
          refine HRN.out.mono ?_
          rintro e w8 ⟨rfl, b8⟩
          have B8 := Lib.hid (BB.out.trans (b8.mono BB.out.size))
          have HK := Lib.hid (known_any w8 (HM.out.below B8.out))
          clear b8 HRN
          go_wp2_with (go_at_call 10; refine HK.out.mono ?_; rintro e w' ⟨rfl, hb⟩)
          go_ret
          exact ⟨rfl, B8.out.trans (hb.mono B8.out.size)⟩
        | none =>
          rw [hn] at HRN
          simp only [Option.getD_none] at HRN
          by_cases h50 : 50 < s.length
          · have hz : (50 : Int) < (s.length : Int) := by omega
            clear hn hall
            go_wp2_with fail
            refine HRN.out.mono ?_
            rintro e w8 ⟨rfl, b8⟩
            have B8 := Lib.hid (BB.out.trans (b8.mono BB.out.size))
            have HK := Lib.hid (known_any w8 (HM.out.below B8.out))
            clear b8 HRN
            go_wp2_with (go_at_call 10; refine HK.out.mono ?_; rintro e w' ⟨rfl, hb⟩)
            go_ret
            exact ⟨rfl, B8.out.trans (hb.mono B8.out.size)⟩
          · have hz : ¬ (50 : Int) < (s.length : Int) := by omega
            have hs50 : s.length ≤ 50 := by omega
            have hsc := bad_scan hall hn
            have k1 := str_add [92, 91] s (by simp; omega)
            have k2 := str_add ([92, 91] ++ s) [93] (by simp; omega)
            have HSC := Lib.hid (fun W => scan_any ([92, 91] ++ s ++ [93]) W (by simp; omega))
            unfold ScanEnd at HSC
            rw [hsc] at HSC
            obtain ⟨y1, hy1⟩ : ∃ y, [92, 91] ++ s = y := ⟨_, rfl⟩
            rw [hy1] at k1 k2 HSC
            obtain ⟨y2, hy2⟩ : ∃ y, y1 ++ [93] = y := ⟨_, rfl⟩
            rw [hy2] at k2 HSC
            have k1' : ∀ W, (addS (.string ⟨#[92, 91]⟩) (.string ⟨s.toArray⟩)).run Tryd.prog W = .ok (.string ⟨y1.toArray⟩) W := k1
            have k2' : ∀ W, (addS (.string ⟨y1.toArray⟩) (.string ⟨#[93]⟩)).run Tryd.prog W = .ok (.string ⟨y2.toArray⟩) W := k2
            clear hn hall hsc k1 k2 hy1 hy2 h50
            go_wp2_with fail
            refine HRN.out.mono ?_
            rintro e w8 ⟨rfl, b8⟩
            have B8 := Lib.hid (BB.out.trans (b8.mono BB.out.size))
            have HSC8 := Lib.hid (HSC.out w8)
            clear b8 HRN HSC
            go_wp2_with fail
            refine HSC8.out.mono ?_
            rintro e w9 ⟨vt, vd, rfl, o1, o2, b9⟩
            have B9 := Lib.hid (B8.out.trans (b9.mono B8.out.size))
            obtain ⟨at_, ct, rfl⟩ := (FOwn.sl tcell_len o1).len
            have SD := FOwn.sl dcell_len o2
            obtain ⟨ad, cd, rfl⟩ := SD.len
            obtain ⟨gg, oo, rfl, c0, c1, c2⟩ := SD.d (j := 0) (g := (2, 0, 1)) rfl
            have c0' : w9.cell? ⟨gg, oo, none⟩ = some (.int .i64 2) := c0
            have c1' : w9.cell? ⟨gg, oo + 1, none⟩ = some (.int .i64 0) := c1
            have c2' : w9.cell? ⟨gg, oo + 2, none⟩ = some (.int .i64 1) := c2
            have he := eqlD_any 2 0 1 2 0 1
            have HK := Lib.hid (known_any w9 (HM.out.below B9.out))
            clear b9 o1 o2 SD c0 c1 c2 HSC8
            go_wp2_with fail
            refine HK.out.mono ?_
            rintro e w10 ⟨rfl, b10⟩
            go_wp2_with fail
            go_ret
            exact ⟨rfl, B9.out.trans (b10.mono B9.out.size)⟩
  · have hz4 : ¬ (n : Int) < 4 := by omega
    have BB := Lib.hid B4.out
    obtain ⟨wB, hwB⟩ : ∃ x, w4 = x := ⟨_, rfl⟩
    subst hwB
    clear h4 HS4 c04 SW4
    have hsb : s.length ≤ 9223372036854775807 := by have := ms; unfold maxLen at this; omega
    go_wp2_with fail
    go_loopw [14] (fun i wr => ∃ j : Nat, j ≤ s.length ∧ i = .int .i64 j ∧ wr = w4 ∧ ∀ x ∈ s.take j, 97 ≤ x.toNat ∧ x.toNat ≤ 122) (fun i _ => s.length - (intOf i).toNat)
    case atStart => exact ⟨0, by omega, rfl, rfl, by simp⟩
    case round =>
      obtain ⟨j, hj, rfl, rfl, hall⟩ := hrel
      have HALL := Lib.hid hall
      have HK := Lib.hid (known_any wr (HM.out.below BB.out))
      clear hall
      by_cases hlt : j < s.length
      · obtain ⟨x, hx⟩ : ∃ x, s[j]? = some x := ⟨s[j], List.getElem?_eq_getElem hlt⟩
        have k1 := HI.out j x hx
        have hi0 : (j : Int) < (s.length : Int) := by omega
        have hi1 : (0 : Int) ≤ (j : Int) := by omega
        by_cases h97 : 97 ≤ x.toNat
        · have hq : ¬ (x.toNat : Int) < 97 := by omega
          by_cases h122 : x.toNat ≤ 122
          · have hq2 : ¬ (122 : Int) < (x.toNat : Int) := by omega
            have HN := Lib.hid (mem_next (P := fun y => 97 ≤ y.toNat ∧ y.toNat ≤ 122) HALL.out hx ⟨h97, h122⟩)
            clear hx h97 h122
            go_wp2_with fail
            go_roundw
            case rel => exact ⟨j + 1, by omega, by go_num, by first | trivial | rfl, HN.out⟩
            case measure => simp [intOf]; omega
          · have hq2 : (122 : Int) < (x.toNat : Int) := by omega
            clear hx h97 h122
            go_wp2_with (go_at_call 10; refine HK.out.mono ?_; rintro e w' ⟨rfl, hb⟩)
            go_ret
            exact ⟨rfl, BB.out.trans (hb.mono BB.out.size)⟩
        · have hq : (x.toNat : Int) < 97 := by omega
          clear hx h97
          go_wp2_with (go_at_call 10; refine HK.out.mono ?_; rintro e w' ⟨rfl, hb⟩)
          go_ret
          exact ⟨rfl, BB.out.trans (hb.mono BB.out.size)⟩
      · obtain rfl : j = s.length := by omega
        have hall : ∀ x ∈ s, 97 ≤ x.toNat ∧ x.toNat ≤ 122 := by have := HALL.out; rw [List.take_length] at this; exact this
        have HRN := Lib.hid (rnameS_any s wr ms)
        clear HALL HI HK
        cases hn : nmOf s with
        | some x =>
          have hxb := nmOf_bd hn
          rw [hn] at HRN
          simp only [Option.getD_some] at HRN
          have hx0 : 0 ≤ x := hxb.1
          have hx1 : decide (0 ≤ x) = true := by simpa using hx0
          clear hn hxb
          go_wp2_with fail
          refine HRN.out.mono ?_
          rintro e w8 ⟨rfl, b8⟩
          have B8 := Lib.hid (BB.out.trans (b8.mono BB.out.size))
          have HK := Lib.hid (known_any w8 (HM.out.below B8.out))
          clear b8 HRN
          go_wp2_with (go_at_call 10; refine HK.out.mono ?_; rintro e w' ⟨rfl, hb⟩)
          go_ret
          exact ⟨rfl, B8.out.trans (hb.mono B8.out.size)⟩
        | none =>
          rw [hn] at HRN
          simp only [Option.getD_none] at HRN
          by_cases h50 : 50 < s.length
          · have hz : (50 : Int) < (s.length : Int) := by omega
            clear hn hall
            go_wp2_with fail
            refine HRN.out.mono ?_
            rintro e w8 ⟨rfl, b8⟩
            have B8 := Lib.hid (BB.out.trans (b8.mono BB.out.size))
            have HK := Lib.hid (known_any w8 (HM.out.below B8.out))
            clear b8 HRN
            go_wp2_with (go_at_call 10; refine HK.out.mono ?_; rintro e w' ⟨rfl, hb⟩)
            go_ret
            exact ⟨rfl, B8.out.trans (hb.mono B8.out.size)⟩
          · have hz : ¬ (50 : Int) < (s.length : Int) := by omega
            have hs50 : s.length ≤ 50 := by omega
            have hsc := bad_scan hall hn
            have k1 := str_add [92, 91] s (by simp; omega)
            have k2 := str_add ([92, 91] ++ s) [93] (by simp; omega)
            have HSC := Lib.hid (fun W => scan_any ([92, 91] ++ s ++ [93]) W (by simp; omega))
            unfold ScanEnd at HSC
            rw [hsc] at HSC
            obtain ⟨y1, hy1⟩ : ∃ y, [92, 91] ++ s = y := ⟨_, rfl⟩
            rw [hy1] at k1 k2 HSC
            obtain ⟨y2, hy2⟩ : ∃ y, y1 ++ [93] = y := ⟨_, rfl⟩
            rw [hy2] at k2 HSC
            have k1' : ∀ W, (addS (.string ⟨#[92, 91]⟩) (.string ⟨s.toArray⟩)).run Tryd.prog W = .ok (.string ⟨y1.toArray⟩) W := k1
            have k2' : ∀ W, (addS (.string ⟨y1.toArray⟩) (.string ⟨#[93]⟩)).run Tryd.prog W = .ok (.string ⟨y2.toArray⟩) W := k2
            clear hn hall hsc k1 k2 hy1 hy2 h50
            go_wp2_with fail
            refine HRN.out.mono ?_
            rintro e w8 ⟨rfl, b8⟩
            have B8 := Lib.hid (BB.out.trans (b8.mono BB.out.size))
            have HSC8 := Lib.hid (HSC.out w8)
            clear b8 HRN HSC
            go_wp2_with fail
            refine HSC8.out.mono ?_
            rintro e w9 ⟨vt, vd, rfl, o1, o2, b9⟩
            have B9 := Lib.hid (B8.out.trans (b9.mono B8.out.size))
            obtain ⟨at_, ct, rfl⟩ := (FOwn.sl tcell_len o1).len
            have SD := FOwn.sl dcell_len o2
            obtain ⟨ad, cd, rfl⟩ := SD.len
            obtain ⟨gg, oo, rfl, c0, c1, c2⟩ := SD.d (j := 0) (g := (2, 0, 1)) rfl
            have c0' : w9.cell? ⟨gg, oo, none⟩ = some (.int .i64 2) := c0
            have c1' : w9.cell? ⟨gg, oo + 1, none⟩ = some (.int .i64 0) := c1
            have c2' : w9.cell? ⟨gg, oo + 2, none⟩ = some (.int .i64 1) := c2
            have he := eqlD_any 2 0 1 2 0 1
            have HK := Lib.hid (known_any w9 (HM.out.below B9.out))
            clear b9 o1 o2 SD c0 c1 c2 HSC8
            go_wp2_with fail
            refine HK.out.mono ?_
            rintro e w10 ⟨rfl, b10⟩
            go_wp2_with fail
            go_ret
            exact ⟨rfl, B9.out.trans (b10.mono B9.out.size)⟩
theorem fonts_law_any (k : Int) (hk0 : 0 ≤ k) (hk1 : k ≤ 255) (s : ByteArray) (w : World) (hM : Mx w) (ms : s.size ≤ maxLen) :
    Calls Tryd.prog 8 #[.int .u8 k, .string s] w fun e W' => e = .returned (.bool true) ∧ Below w.heap.size w W' := by
  have hs : (⟨s.data.toList.toArray⟩ : ByteArray) = s := by cases s; simp
  have := fontsL_any k hk0 hk1 s.data.toList w hM (by rw [← Lib.size_eq]; exact ms)
  rw [hs] at this
  exact this
end Go.Proofs.YtdpakljfdfomfaaDoor
