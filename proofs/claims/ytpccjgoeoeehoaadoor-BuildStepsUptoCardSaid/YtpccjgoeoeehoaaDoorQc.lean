/- The program's own for documents: which signs tell columns. -/
import Derived.Test.YtpccjgoeoeehoaaDoorQ2
import Derived.Test.YtpccjgoeoeehoaaDoorQ9
import Derived.Test.YtpccjgoeoeehoaaDoorC0
import Derived.Laws.RangeAny
import Derived.Lib.TrimAscii
import Derived.Lib.TrimU
set_option linter.unusedVariables false
set_option linter.unusedSimpArgs false
namespace Go.Proofs.YtpccjgoeoeehoaaDoor
open Go.RowKit Go.Lib
def colI (x : Int) : Bool := x == 108 || x == 99 || x == 114
def keepI (x : Int) : Int := if colI x then x else -1
theorem col_side (b : UInt8) : colI (b.toNat : Int) = side b := by
  unfold colI side
  have e : ∀ k : UInt8, ((b.toNat : Int) == (k.toNat : Int)) = (b == k) := fun k => by
    rw [Bool.eq_iff_iff]
    simp only [beq_iff_eq]
    constructor
    · intro h
      have h' : b.toNat = k.toNat := by omega
      exact UInt8.toNat_inj.1 h'
    · rintro rfl; rfl
  rw [← e 108, ← e 99, ← e 114]
  rfl
theorem col_high {x : Int} (h : 128 ≤ x) : colI x = false := by
  unfold colI
  have h1 : (x == 108) = false := by simp; omega
  have h2 : (x == 99) = false := by simp; omega
  have h3 : (x == 114) = false := by simp; omega
  rw [h1, h2, h3]; rfl
theorem side_high {b : UInt8} (h : 128 ≤ b.toNat) : side b = false := by rw [← col_side]; exact col_high (by omega)
theorem high_cont {b : UInt8} (h : b.toNat / 64 = 2) : side b = false := side_high (by omega)
/-- What a rune of more than one byte takes has no sign of a column. -/
theorem drop_side (b : UInt8) (t : List UInt8) (h : 128 ≤ b.toNat) : (b :: t).filter side = ((b :: t).drop (decodeL (b :: t)).2).filter side := by
  have hb := side_high h
  rw [decodeL_N]
  rcases decodeN_shape (b :: t).length ((b :: t).getD 0 0).toNat ((b :: t).getD 1 0).toNat ((b :: t).getD 2 0).toNat ((b :: t).getD 3 0).toNat with ⟨c, e⟩ | ⟨c1, c2, c3, cv, e⟩ | ⟨c1, c2, c3, c4, cv, cs, e⟩ | ⟨c1, c2, c3, c4, c5, cv, cw, e⟩ | e
  · exfalso
    have : ((b :: t).getD 0 0) = b := rfl
    rw [this] at c
    omega
  · rw [e]
    rcases t with _ | ⟨x1, t⟩
    · simp at c2
    · have k1 : side x1 = false := high_cont c3
      simp [hb, k1]
  · rw [e]
    rcases t with _ | ⟨x1, _ | ⟨x2, t⟩⟩
    · simp at c2
    · simp at c2
    · have k1 : side x1 = false := high_cont c3
      have k2 : side x2 = false := high_cont c4
      simp [hb, k1, k2]
  · rw [e]
    rcases t with _ | ⟨x1, _ | ⟨x2, _ | ⟨x3, t⟩⟩⟩
    · simp at c2
    · simp at c2
    · simp at c2
    · have k1 : side x1 = false := high_cont c3
      have k2 : side x2 = false := high_cont c4
      have k3 : side x3 = false := high_cont c5
      simp [hb, k1, k2, k3]
  · rw [e]
    simp [hb]
theorem decodeL_high (b : UInt8) (t : List UInt8) (h : 128 ≤ b.toNat) : 128 ≤ (decodeL (b :: t)).1 :=
  (decode_high ⟨(b :: t).toArray⟩ 0 (by simp [Go.Lib.size_eq]) (by exact h)).1
theorem map_keep : ∀ (n : Nat) (l : List UInt8), l.length ≤ n → mapD keepI l = l.filter side
  | _, [], _ => rfl
  | 0, _ :: _, h => by simp at h
  | n + 1, b :: t, h => by
    rw [mapD_step keepI (b :: t) (by simp)]
    by_cases ha : b.toNat < 128
    · rw [decodeL_ascii b t ha]
      simp only [List.drop_succ_cons, List.drop_zero]
      rw [map_keep n t (by simpa using h)]
      by_cases hs : side b = true
      · have hk : keepI (b.toNat : Int) = (b.toNat : Int) := by unfold keepI; rw [col_side, hs]; rfl
        have henc := encode_decode (b :: t) (by simp) (by rw [decodeL_ascii b t ha]; simp; omega)
        rw [decodeL_ascii b t ha] at henc
        rw [hk, if_pos (by omega), List.filter_cons_of_pos hs, henc]
        rfl
      · have hs' : side b = false := by simpa using hs
        have hk : keepI (b.toNat : Int) = -1 := by unfold keepI; rw [col_side, hs']; rfl
        rw [hk, if_neg (by decide), List.filter_cons_of_neg hs]
        rfl
    · have hh := decodeL_high b t (by omega)
      have hk : keepI ((decodeL (b :: t)).1 : Int) = -1 := by unfold keepI; rw [col_high (by omega)]; rfl
      have hw := decodeL_width (b :: t)
      rw [hk, if_neg (by decide), List.nil_append, map_keep n _ (by rw [List.length_drop]; simp only [List.length_cons] at h ⊢; omega), ← drop_side b t (by omega)]
set_option maxRecDepth 100000 in
theorem pcolumn_any (x : Int) (w : World) : Calls Tryd.prog 97 #[.int .i32 x] w fun e w' => e = .returned (.bool (colI x)) ∧ w = w' := by
  unfold colI
  by_cases h1 : x = 108
  · subst h1
    go_enter Tryd.func97, Tryd.ntmps97
    go_wp2_with fail
    go_ret
    exact ⟨rfl, rfl⟩
  · have n1 : (x == 108) = false := by simpa using h1
    by_cases h2 : x = 99
    · subst h2
      clear h1
      go_enter Tryd.func97, Tryd.ntmps97
      go_wp2_with fail
      go_ret
      exact ⟨rfl, rfl⟩
    · have n2 : (x == 99) = false := by simpa using h2
      rw [n1, n2]
      obtain ⟨p, hp⟩ : ∃ p, (x == 114) = p := ⟨_, rfl⟩
      rw [hp]
      clear h1 h2
      go_enter Tryd.func97, Tryd.ntmps97
      go_wp2_with fail
      go_ret
      exact ⟨rfl, rfl⟩
set_option maxRecDepth 100000 in
theorem pkeep_any (x : Int) (w : World) : Calls Tryd.prog 96 #[.int .i32 x] w fun e w' => e = .returned (.int .i32 (keepI x)) ∧ w = w' := by
  have H := Lib.hid (pcolumn_any x w)
  unfold keepI
  obtain ⟨p, hp⟩ : ∃ p, colI x = p := ⟨_, rfl⟩
  rw [hp] at H ⊢
  clear hp
  cases p
  · rw [if_neg (by simp)]
    go_enter Tryd.func96, Tryd.ntmps96
    go_wp2_with fail
    refine H.out.mono ?_
    rintro e w1 ⟨rfl, rfl⟩
    go_wp2_with fail
    go_ret
    exact ⟨rfl, rfl⟩
  · rw [if_pos rfl]
    go_enter Tryd.func96, Tryd.ntmps96
    go_wp2_with fail
    refine H.out.mono ?_
    rintro e w1 ⟨rfl, rfl⟩
    go_wp2_with fail
    go_ret
    exact ⟨rfl, rfl⟩
theorem keep_range (x : Int) (h0 : 0 ≤ x) (h1 : x ≤ 1114111) : -2147483648 ≤ keepI x ∧ keepI x ≤ 2147483647 := by
  unfold keepI
  split <;> omega
theorem pmapcols_any (l : List UInt8) (w : World) (hU : U8 w) (hl : l.length ≤ 90000) : Calls Tryd.prog 98 #[.func (.func 96) #[] #[], .string ⟨l.toArray⟩] w fun e w' => e = .returned (.string ⟨(l.filter side).toArray⟩) ∧ Below w.heap.size w w' := by
  have hsz : (⟨l.toArray⟩ : ByteArray).size = l.length := by simp [Go.Lib.size_eq]
  have h := smap_any 96 #[] (enters_of Tryd.func96 (by kernel_rfl) rfl) keepI ⟨l.toArray⟩ w (by rw [hsz]; omega) (fun W x _ _ => (pkeep_any (x : Int) W).mono fun e w' ⟨he, hw⟩ => ⟨he, hw ▸ Below.refl _ _⟩) (fun x hx => keep_range _ (by omega) (by omega)) hU
  have e : (⟨l.toArray⟩ : ByteArray).data.toList = l := rfl
  rw [e, map_keep l.length l (Nat.le_refl _)] at h
  exact h
attribute [local go_sem ↓ high] binop_eqT binop_neqT builtin_mnS
set_option maxRecDepth 100000 in
theorem pcolumns_any (c : List UInt8) (w : World) (hU : U8 w) (hl : c.length ≤ 90000) : Calls Tryd.prog 94 #[.string ⟨c.toArray⟩] w fun e w' => e = .returned (.string ⟨(mcols c).toArray⟩) ∧ Below w.heap.size w w' := by
  have HM := Lib.hid (pmapcols_any c w hU hl)
  have hfl : (c.filter side).length ≤ c.length := List.length_filter_le _ _
  unfold mcols
  obtain ⟨F, hF⟩ : ∃ F, c.filter side = F := ⟨_, rfl⟩
  rw [hF] at HM hfl ⊢
  have q1 := eqT_run F []
  have hFl : (⟨F.toArray⟩ : ByteArray).size = F.length := by simp [Go.Lib.size_eq]
  clear hF hU
  by_cases he : F = []
  · rw [decide_eq_true he] at q1
    subst he
    rw [show (if ([] : List UInt8).take 20 = [] then ([108] : List UInt8) else ([] : List UInt8).take 20) = [108] from rfl]
    go_enter Tryd.func94, Tryd.ntmps94
    go_wp2_with fail
    refine HM.out.mono ?_
    rintro e w1 ⟨rfl, b1⟩
    have B1 := Lib.hid b1
    clear b1 HM
    go_wp2_with fail
    go_ret
    exact ⟨rfl, B1.out⟩
  · rw [decide_eq_false he] at q1
    have hne : ¬ F.take 20 = [] := fun h => he (by
      cases F with
      | nil => rfl
      | cons x l => simp at h)
    rw [if_neg hne]
    have mm := mnS_run (F.length : Int) 20 ((min F.length 20 : Nat) : Int) (by split <;> omega)
    have hsl : ∀ W : World, (Instr.slice 9 (.string ⟨F.toArray⟩) none (some (.int .i64 ((min F.length 20 : Nat) : Int))) none).run Tryd.prog W = .ok (.string ⟨(F.take 20).toArray⟩) W := fun W => by
      rw [run_slice_string_h W 9 _ Tryd.underlying9 .i64 _ (by omega) (by rw [hFl]; omega)]
      have e : (⟨F.toArray⟩ : ByteArray).extract 0 ((min F.length 20 : Nat) : Int).toNat = ⟨(F.take 20).toArray⟩ := by
        rw [ByteArray.extract_mk]
        simp only [Int.toNat_natCast]
        have e2 : F.take (min F.length 20) = F.take 20 := by
          by_cases h : F.length ≤ 20
          · rw [Nat.min_eq_left h, List.take_length, List.take_of_length_le h]
          · rw [Nat.min_eq_right (by omega)]
        simp [e2]
      rw [e]
    clear he hne
    go_enter Tryd.func94, Tryd.ntmps94
    go_wp2_with fail
    refine HM.out.mono ?_
    rintro e w1 ⟨rfl, b1⟩
    have B1 := Lib.hid b1
    clear b1 HM
    go_wp2_with fail
    go_ret
    exact ⟨rfl, B1.out⟩
end Go.Proofs.YtpccjgoeoeehoaaDoor
