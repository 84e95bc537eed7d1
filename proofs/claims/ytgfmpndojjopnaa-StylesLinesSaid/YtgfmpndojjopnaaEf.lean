/- The document's own: where a bracket closes, a text of runes, a name. -/
import Derived.Test.YtgfmpndojjopnaaE7
import Derived.Test.YtgfmpndojjopnaaW9
namespace Go.Proofs.Ytgfmpndojjopnaa
open Go.RowKit

set_option maxHeartbeats 1000000 in
theorem rclose_any (l : List Int) (v : Value) (q : Nat) (w : World) (hv : Sl .i32 w v l) (hq : q ≤ l.length) (hl : l.length ≤ 200000) :
    Calls Try.prog 50 #[v, .int .i64 (q : Int)] w fun e w' => e = .returned (.int .i64 (ixI q (ix (l.drop q)))) ∧ w = w' := by
  have HV := Lib.hid hv
  obtain ⟨a, cap, rfl⟩ := hv.len
  obtain ⟨X, hX⟩ : ∃ X, ixI q (ix (l.drop q)) = X := ⟨_, rfl⟩
  rw [hX]
  clear hv
  go_enter Try.func50, Try.ntmps50
  go_wp2_with fail
  go_loopw [5] (fun i wr => ∃ j : Nat, j ≤ l.length ∧ i = .int .i64 j ∧ wr = w ∧ ixI j (ix (l.drop j)) = X) (fun i _ => l.length - (intOf i).toNat)
  case atStart => exact ⟨q, hq, rfl, rfl, hX⟩
  case round =>
    obtain ⟨j, hj, rfl, rfl, hx⟩ := hrel
    have HX := Lib.hid hx
    clear hx hX
    by_cases hlt : j < l.length
    · obtain ⟨z, hz⟩ : ∃ z, l[j]? = some z := ⟨l[j], List.getElem?_eq_getElem hlt⟩
      obtain ⟨g, off, rfl, c0⟩ := HV.out.at hz
      have hi0 : (j : Int) < (l.length : Int) := by omega
      have hi1 : (0 : Int) ≤ (j : Int) := by omega
      by_cases he : z = 93
      · subst he
        have hres := Lib.hid (show (j : Int) = X by
          have := HX.out
          rw [ix_hit hz] at this
          simpa [ixI] using this)
        clear hz
        go_wp2_with fail
        go_ret
        exact ⟨ret_int hres.out, rfl⟩
      · have hres := Lib.hid (show ixI (j + 1) (ix (l.drop (j + 1))) = X by
          have := HX.out
          rw [ix_miss hz he, ixI_miss] at this
          exact this)
        have he' : (z == (93 : Int)) = false := by simpa using he
        clear hz he
        go_wp2_with fail
        go_roundw
        case rel => exact ⟨j + 1, by omega, by go_num, by first | trivial | rfl, hres.out⟩
        case measure => simp [intOf]; omega
    · obtain rfl : j = l.length := by omega
      have hres := Lib.hid (show (-1 : Int) = X by
        have := HX.out
        rw [List.drop_length] at this
        simpa [ixI, ix] using this)
      go_wp2_with fail
      go_ret
      exact ⟨ret_int hres.out, rfl⟩

set_option maxHeartbeats 1000000 in
theorem rtextR_any (l : List Int) (v : Value) (w : World) (hv : Sl .i32 w v l) (hl : l.length ≤ 2000) (hz : ∀ z ∈ l, -2147483648 ≤ z ∧ z ≤ 2147483647) :
    Calls Try.prog 51 #[v] w fun e w' => e = .returned (.string ⟨(enc l).toArray⟩) ∧ Below w.heap.size w w' := by
  have HE := Lib.hid (rencode_any l hl hz v w hv)
  obtain ⟨a, cap, rfl⟩ := hv.len
  clear hv hz
  go_enter Try.func51, Try.ntmps51
  go_wp2_with fail
  refine HE.out.mono ?_
  rintro e w1 ⟨u1, rfl, s1, b1⟩
  have k1 := str_of_bytes s1
  have B1 := Lib.hid b1
  clear HE s1 b1
  go_wp2_with fail
  go_ret
  exact ⟨rfl, B1.out⟩

def RnEnd (w : World) (q : Nat) (o : Option (List Int × Nat)) (e : Ending) (w' : World) : Prop :=
  (match o with
    | none => e = .returned (.tuple #[.string ⟨#[]⟩, .int .i64 (-1)])
    | some (n, k) => e = .returned (.tuple #[.string ⟨(enc n).toArray⟩, .int .i64 ((q + k : Nat) : Int)])) ∧ Below w.heap.size w w'
theorem take_drop_mid (L : List Int) (a k : Nat) : (L.take (a + k)).drop a = (L.drop a).take k := by
  rw [List.drop_take, Nat.add_sub_cancel_left]

attribute [local go_sem ↓ high] slice_midR
set_option maxRecDepth 100000 in
set_option maxHeartbeats 2000000 in
theorem rnm_any (L : List Int) (v : Value) (q : Nat) (w : World) (hv : Sl .i32 w v L) (hq : q ≤ L.length) (hl : L.length ≤ 2000) (hz : ∀ z ∈ L, -2147483648 ≤ z ∧ z ≤ 2147483647) :
    Calls Try.prog 41 #[v, .int .i64 (q : Int)] w (RnEnd w q (nameL (L.drop q))) := by
  have HV := Lib.hid hv
  have HM := Lib.hid (fun a b (h1 : a ≤ b) (h2 : b ≤ L.length) => midR_run hv a b h1 h2)
  have HTX := Lib.hid (fun (l : List Int) u (h : Sl .i32 w u l) (h1 : l.length ≤ 2000) (h2 : ∀ z ∈ l, z ∈ L) => rtextR_any l u w h h1 (fun z hz' => hz z (h2 z hz')))
  have hdl : (L.drop q).length = L.length - q := by rw [List.length_drop]
  cases hc : L[q]? with
  | none =>
    have := List.getElem?_eq_none_iff.1 hc
    have e : L.drop q = [] := List.drop_eq_nil_of_le this
    rw [e]
    obtain ⟨a, cap, rfl⟩ := hv.len
    have hz1 : (L.length : Int) ≤ (q : Int) := by omega
    clear hv hz e hdl hc
    go_enter Try.func41, Try.ntmps41
    go_wp2_with fail
    go_ret2
    exact ⟨rfl, Below.refl _ _⟩
  | some c =>
    have hlt := (List.getElem?_eq_some_iff.1 hc).1
    have hdc := drop_cons hc
    have HCL := Lib.hid (rclose_any L v q w hv hq (by omega))
    obtain ⟨a, cap, rfl⟩ := hv.len
    obtain ⟨g, off, rfl, c0⟩ := hv.at hc
    have hz1 : ¬ (L.length : Int) ≤ (q : Int) := by omega
    have hz2 : (q : Int) < (L.length : Int) := by omega
    have hz3 : (0 : Int) ≤ (q : Int) := by omega
    have hz4 : L.length ≤ 2000 := by omega
    have hrl : (L.drop (q + 1)).length = L.length - (q + 1) := by rw [List.length_drop]
    by_cases h91 : c = 91
    · subst h91
      cases hi : ix (L.drop (q + 1)) with
      | none =>
        have e : nameL (L.drop q) = none := by rw [hdc, nameL_cons, if_neg (by decide), if_pos rfl, hi]
        have hx : ixI q (ix (L.drop q)) = -1 := by rw [hdc, ix_cons, if_neg (by decide), hi]; rfl
        rw [hx] at HCL
        rw [e]
        clear hv hz e hdl hc hdc hx hi hrl
        go_enter Try.func41, Try.ntmps41
        go_wp2_with fail
        refine HCL.out.mono ?_
        rintro e w1 ⟨rfl, rfl⟩
        clear HCL
        go_wp2_with fail
        go_ret2
        exact ⟨rfl, Below.refl _ _⟩
      | some j =>
        have hjl := ix_lt _ _ hi
        rw [hrl] at hjl
        have e : nameL (L.drop q) = some ((L.drop (q + 1)).take j, j + 2) := by rw [hdc, nameL_cons, if_neg (by decide), if_pos rfl, hi]
        have hx : ixI q (ix (L.drop q)) = ((q + 1 + j : Nat) : Int) := by
          rw [hdc, ix_cons, if_neg (by decide), hi]
          show ((j + 1 + q : Nat) : Int) = _
          omega
        rw [hx] at HCL
        rw [e]
        obtain ⟨u, k1, s1⟩ := HM.out (q + 1) (q + 1 + j) (by omega) (by omega)
        rw [take_drop_mid] at s1
        have HT := Lib.hid (HTX.out _ u s1 (by rw [List.length_take]; omega) (fun z hz' => List.mem_of_mem_drop (List.mem_of_mem_take hz')))
        have k1' : ∀ W : World, (midR (.slice (some ⟨g, off, none⟩) L.length cap) (.int .i64 ((q : Int) + 1)) (.int .i64 ((q + 1 + j : Nat) : Int))).run Try.prog W = .ok u W := k1
        obtain ⟨N, hN⟩ : ∃ N, q + 1 + j = N := ⟨_, rfl⟩
        rw [hN] at HCL k1'
        obtain ⟨n, hn⟩ : ∃ n, (L.drop (q + 1)).take j = n := ⟨_, rfl⟩
        rw [hn] at HT ⊢
        have hNb : N ≤ 2000 := by omega
        have hN0 : ¬ (N : Int) < 0 := by omega
        have HE := Lib.hid (show ((q + (j + 2) : Nat) : Int) = (N : Int) + 1 by omega)
        clear hv hz e hdl hc hdc hx hi hrl k1 s1 HTX HM hN hn hjl
        go_enter Try.func41, Try.ntmps41
        go_wp2_with fail
        refine HCL.out.mono ?_
        rintro e w1 ⟨rfl, rfl⟩
        clear HCL
        go_wp2_with fail
        refine HT.out.mono ?_
        rintro e w1 ⟨rfl, b1⟩
        have B1 := Lib.hid b1
        clear HT b1
        go_wp2_with fail
        go_ret2
        exact ⟨by simp only; rw [HE.out]; rfl, B1.out⟩
    · have e91 : (c == 91) = false := by simpa using h91
      by_cases h40 : c = 40
      · subst h40
        by_cases hlen : (L.drop (q + 1)).length < 2
        · have e : nameL (L.drop q) = none := by rw [hdc, nameL_cons, if_pos rfl, if_pos hlen]
          rw [e]
          have hz5 : (L.length : Int) < (q : Int) + 3 := by omega
          clear hv hz e hdl hc hdc hrl HCL HM HTX hlen h91
          go_enter Try.func41, Try.ntmps41
          go_wp2_with fail
          go_ret2
          exact ⟨rfl, Below.refl _ _⟩
        · have e : nameL (L.drop q) = some ((L.drop (q + 1)).take 2, 3) := by rw [hdc, nameL_cons, if_pos rfl, if_neg hlen]
          rw [e]
          have hz5 : ¬ (L.length : Int) < (q : Int) + 3 := by omega
          obtain ⟨u, k1, s1⟩ := HM.out (q + 1) (q + 1 + 2) (by omega) (by omega)
          rw [take_drop_mid] at s1
          have HT := Lib.hid (HTX.out _ u s1 (by rw [List.length_take]; omega) (fun z hz' => List.mem_of_mem_drop (List.mem_of_mem_take hz')))
          have k1' : ∀ W : World, (midR (.slice (some ⟨g, off, none⟩) L.length cap) (.int .i64 ((q : Int) + 1)) (.int .i64 ((q : Int) + 3))).run Try.prog W = .ok u W := k1
          obtain ⟨n, hn⟩ : ∃ n, (L.drop (q + 1)).take 2 = n := ⟨_, rfl⟩
          rw [hn] at HT ⊢
          clear hv hz e hdl hc hdc hrl HCL HM HTX hlen h91 hn k1 s1
          go_enter Try.func41, Try.ntmps41
          go_wp2_with fail
          refine HT.out.mono ?_
          rintro e w1 ⟨rfl, b1⟩
          have B1 := Lib.hid b1
          clear HT b1
          go_wp2_with fail
          go_ret2
          exact ⟨rfl, B1.out⟩
      · have e40 : (c == 40) = false := by simpa using h40
        have e : nameL (L.drop q) = some ((L.drop q).take 1, 1) := by rw [hdc, nameL_cons, if_neg h40, if_neg h91]; rfl
        rw [e]
        obtain ⟨u, k1, s1⟩ := HM.out q (q + 1) (by omega) (by omega)
        rw [take_drop_mid] at s1
        have HT := Lib.hid (HTX.out _ u s1 (by rw [List.length_take]; omega) (fun z hz' => List.mem_of_mem_drop (List.mem_of_mem_take hz')))
        have k1' : ∀ W : World, (midR (.slice (some ⟨g, off, none⟩) L.length cap) (.int .i64 (q : Int)) (.int .i64 ((q : Int) + 1))).run Try.prog W = .ok u W := k1
        obtain ⟨n, hn⟩ : ∃ n, (L.drop q).take 1 = n := ⟨_, rfl⟩
        rw [hn] at HT ⊢
        clear hv hz e hdl hc hdc hrl HCL HM HTX h91 h40 hn k1 s1
        go_enter Try.func41, Try.ntmps41
        go_wp2_with fail
        refine HT.out.mono ?_
        rintro e w1 ⟨rfl, b1⟩
        have B1 := Lib.hid b1
        clear HT b1
        go_wp2_with fail
        go_ret2
        exact ⟨rfl, B1.out⟩
end Go.Proofs.Ytgfmpndojjopnaa
