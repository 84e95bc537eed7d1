/- A text that is quoted, byte by byte; Quote, the program's and the document's own. -/
import Derived.Test.YtdpakljfdfomfaaDoorRp
import Derived.Test.YtdpakljfdfomfaaDoorEq
namespace Go.Proofs.YtdpakljfdfomfaaDoor
open Go.RowKit

/-- Each backslash with an e behind it. -/
def quoteB (b : List UInt8) : List UInt8 := b.flatMap fun c => if c = 92 then [92, 101] else [c]
theorem quoteB_nil : quoteB [] = [] := rfl
theorem quoteB_cons (c : UInt8) (l : List UInt8) : quoteB (c :: l) = (if c = 92 then [92, 101] else [c]) ++ quoteB l := by simp [quoteB]
theorem quoteB_len (b : List UInt8) : (quoteB b).length ≤ 2 * b.length := by
  induction b with
  | nil => simp [quoteB]
  | cons c l ih =>
    rw [quoteB_cons, List.length_append, List.length_cons]
    split <;> simp <;> omega
theorem rk_ne (b c : UInt8) (new l : List UInt8) (h : b ≠ c) : ∀ k, Lib.replaceK [c] new k (b :: l) = b :: Lib.replaceK [c] new k l
  | 0 => rfl
  | k + 1 => by
    have hp : List.isPrefixOf [c] (b :: l) = false := by simp [List.isPrefixOf, Ne.symm h]
    have hge := Lib.index_ge l [c]
    have hi : Lib.index (b :: l) [c] = if Lib.index l [c] == -1 then -1 else Lib.index l [c] + 1 := by
      conv => lhs; unfold Lib.index
      rw [hp]
      rfl
    unfold Lib.replaceK
    rw [hi]
    by_cases hm : Lib.index l [c] = -1
    · rw [hm]; rfl
    · have h1 : (Lib.index l [c] == -1) = false := by simpa using hm
      have h2 : (Lib.index l [c] + 1 == -1) = false := by rw [beq_eq_false_iff_ne]; omega
      rw [h1]
      simp only [Bool.false_eq_true, if_false]
      rw [h2]
      simp only [Bool.false_eq_true, if_false]
      have e : (Lib.index l [c] + 1).toNat = (Lib.index l [c]).toNat + 1 := by omega
      rw [e, List.take_succ_cons, show (Lib.index l [c]).toNat + 1 + [c].length = ((Lib.index l [c]).toNat + [c].length) + 1 by simp, List.drop_succ_cons]
      rfl
theorem rk_eq (c : UInt8) (new l : List UInt8) (k : Nat) : Lib.replaceK [c] new (k + 1) (c :: l) = new ++ Lib.replaceK [c] new k l := by
  have hi : Lib.index (c :: l) [c] = 0 := by
    unfold Lib.index
    simp [List.isPrefixOf]
  rw [Lib.replaceK_hit [c] new k (c :: l) 0 hi]
  simp
theorem rk_quote : ∀ l : List UInt8, Lib.replaceK [92] [92, 101] (l.count 92) l = quoteB l
  | [] => rfl
  | b :: l => by
    by_cases h : b = 92
    · subst h
      rw [List.count_cons_self, rk_eq, rk_quote l, quoteB_cons, if_pos rfl]
    · rw [List.count_cons_of_ne h, rk_ne b 92 _ _ h, rk_quote l, quoteB_cons, if_neg h]
      rfl
theorem replace_quote (l : List UInt8) : Lib.replaceAll l [92] [92, 101] = quoteB l := by
  unfold Lib.replaceAll Lib.replace
  rw [if_neg (by decide)]
  unfold Lib.replaceNum
  rw [if_pos (.inl (by decide)), Lib.count_one, rk_quote]

set_option maxHeartbeats 1000000 in
theorem quote_any (b : List UInt8) (w : World) (hM : Mx w) (hb : b.length ≤ 100000) :
    Calls Tryd.prog 19 #[.string ⟨b.toArray⟩] w fun e w' => e = .returned (.string ⟨(quoteB b).toArray⟩) ∧ Below w.heap.size w w' := by
  have hcl : Lib.countB ⟨b.toArray⟩ ⟨#[92]⟩ ≤ b.length := by
    show Lib.count b [92] ≤ b.length
    rw [Lib.count_one]
    exact List.count_le_length
  have hz : (⟨b.toArray⟩ : ByteArray).size = b.length := by simp [Go.Lib.size_eq]
  have H := replace_any ⟨b.toArray⟩ ⟨#[92]⟩ ⟨#[92, 101]⟩ w hM (by rw [hz]; omega) (by decide) (by
    rw [hz]
    have : (⟨#[92, 101]⟩ : ByteArray).size = 2 := by decide
    rw [this]
    omega)
  have e : Lib.replaceAll (⟨b.toArray⟩ : ByteArray).data.toList (⟨#[92]⟩ : ByteArray).data.toList (⟨#[92, 101]⟩ : ByteArray).data.toList = quoteB b := replace_quote b
  rw [e] at H
  have HH := Lib.hid H
  clear H e hcl hM hz
  go_enter Tryd.func19, Tryd.ntmps19
  go_wp2_with fail
  refine HH.out.mono ?_
  rintro e w1 ⟨rfl, b1⟩
  go_wp2_with fail
  go_ret
  exact ⟨rfl, b1⟩

theorem quote_take {b : List UInt8} {j : Nat} {x : UInt8} (h : b[j]? = some x) : quoteB (b.take (j + 1)) = quoteB (b.take j) ++ (if x = 92 then [92, 101] else [x]) := by
  simp [quoteB, List.take_add_one, h]
theorem cat_str (a c : List UInt8) : (⟨a.toArray⟩ : ByteArray) ++ ⟨c.toArray⟩ = ⟨(a ++ c).toArray⟩ := by
  apply ByteArray.ext
  simp
/-- '+' of texts, kept whole. -/
noncomputable def addS (a c : Value) : Sem Value := binOp .add 9 a c
theorem binop_addS (a c : Value) : binOp .add 9 a c = addS a c := rfl
theorem str_add (a c : List UInt8) (h : a.length + c.length ≤ 1000000) (W : World) : (addS (.string ⟨a.toArray⟩) (.string ⟨c.toArray⟩)).run Tryd.prog W = .ok (.string ⟨(a ++ c).toArray⟩) W := by
  unfold addS
  have ha : (⟨a.toArray⟩ : ByteArray).size = a.length := by simp [Go.Lib.size_eq]
  have hc : (⟨c.toArray⟩ : ByteArray).size = c.length := by simp [Go.Lib.size_eq]
  rw [binOp_string_add]
  simp [Op.stringOp, cat_str, ha, hc, maxLen]
  omega

attribute [local go_sem ↓ high] binop_addS
set_option maxHeartbeats 1000000 in
theorem rquote_any (b : List UInt8) (w : World) (hb : b.length ≤ 100000) :
    Calls Tryd.prog 20 #[.string ⟨b.toArray⟩] w fun e w' => e = .returned (.string ⟨(quoteB b).toArray⟩) ∧ w = w' := by
  have hsz : (⟨b.toArray⟩ : ByteArray).size = b.length := by simp [Go.Lib.size_eq]
  have HQ := Lib.hid (fun j x (h : b[j]? = some x) => quote_take h)
  have HI := Lib.hid (fun j x (h : b[j]? = some x) => str_idx b j x h)
  have HM := Lib.hid (fun i j h1 h2 => str_mid b i j h1 h2)
  go_enter Tryd.func20, Tryd.ntmps20
  go_wp2_with fail
  go_loopw [3, 4] (fun o i wr => ∃ j : Nat, j ≤ b.length ∧ i = .int .i64 j ∧ o = .string ⟨(quoteB (b.take j)).toArray⟩ ∧ wr = w) (fun _ i _ => b.length - (intOf i).toNat)
  case atStart => exact ⟨0, by omega, rfl, rfl, rfl⟩
  case round =>
    obtain ⟨j, hj, rfl, rfl, rfl⟩ := hrel
    by_cases hlt : j < b.length
    · obtain ⟨x, hx⟩ : ∃ x, b[j]? = some x := ⟨b[j], List.getElem?_eq_getElem hlt⟩
      have k1 := HI.out j x hx
      have k2 := HM.out j (j + 1) (by omega) (by omega)
      have e2 : (b.drop j).take (j + 1 - j) = [x] := by
        rw [show j + 1 - j = 1 by omega, List.drop_eq_getElem_cons hlt]
        have := (List.getElem?_eq_some_iff.1 hx).2
        simp [this]
      rw [e2] at k2
      have k2' : ∀ w, (Instr.slice 9 (.string ⟨b.toArray⟩) (some (.int .i64 (j : Int))) (some (.int .i64 ((j : Int) + 1))) none).run Tryd.prog w = .ok (.string ⟨[x].toArray⟩) w := k2
      have HN := Lib.hid (HQ.out j x hx)
      have hol := quoteB_len (b.take j)
      rw [List.length_take] at hol
      obtain ⟨o, ho⟩ : ∃ o, quoteB (b.take j) = o := ⟨_, rfl⟩
      rw [ho] at HN hol ⊢
      have k3 := str_add o [x] (by simp; omega)
      have k4 := str_add (o ++ [x]) [101] (by simp; omega)
      have k4' : ∀ w, (addS (.string ⟨(o ++ [x]).toArray⟩) (.string ⟨#[101]⟩)).run Tryd.prog w = .ok (.string ⟨(o ++ [x] ++ [101]).toArray⟩) w := k4
      have hi0 : (j : Int) < (b.length : Int) := by omega
      have hi1 : (0 : Int) ≤ (j : Int) := by omega
      clear hx k2 k4 e2 ho hol
      by_cases hq : x = 92
      · have hne : ((x.toNat : Int) == 92) = true := by rw [hq]; decide
        rw [if_pos hq] at HN
        have HE := Lib.hid hq
        clear hq
        go_wp2_with fail
        go_roundw
        case rel => exact ⟨j + 1, by omega, by go_num, by rw [HN.out]; simp [HE.out], by first | trivial | rfl⟩
        case measure => simp [intOf]; omega
      · have hne : ((x.toNat : Int) == 92) = false := by
          rw [beq_eq_false_iff_ne]
          intro h
          exact hq (UInt8.toNat_inj.1 (by have : x.toNat = 92 := by omega
                                          exact this))
        rw [if_neg hq] at HN
        clear hq
        go_wp2_with fail
        go_roundw
        case rel => exact ⟨j + 1, by omega, by go_num, by rw [HN.out], by first | trivial | rfl⟩
        case measure => simp [intOf]; omega
    · obtain rfl : j = b.length := by omega
      rw [List.take_length]
      go_wp2_with fail
      go_ret
      exact ⟨rfl, rfl⟩
end Go.Proofs.YtdpakljfdfomfaaDoor
