/- Plain maths of runs: rows that are set in one way each. -/
import Derived.Test.YtkiglnfapoifiaaDoorG2
namespace Go.Proofs.YtkiglnfapoifiaaDoor

/-- The runs that have ended, and the one that goes on. -/
def runStep (st : List (List Gly) × List Gly) (g : Gly) : List (List Gly) × List Gly :=
  match st.2 with
  | [] => (st.1, [g])
  | h :: c => if h.2 = g.2 then (st.1, h :: c ++ [g]) else (st.1 ++ [h :: c], [g])
def runSt (l : List Gly) : List (List Gly) × List Gly := l.foldl runStep ([], [])
def runEnd (st : List (List Gly) × List Gly) : List (List Gly) := if st.2 = [] then st.1 else st.1 ++ [st.2]
def runsL (l : List Gly) : List (List Gly) := runEnd (runSt l)

theorem runSt_take {l : List Gly} {j : Nat} {g : Gly} (h : l[j]? = some g) : runSt (l.take (j + 1)) = runStep (runSt (l.take j)) g := by
  unfold runSt
  rw [List.take_add_one, h]
  simp [List.foldl_append]

/-- What is so all the way. -/
structure RunOk (l : List Gly) (st : List (List Gly) × List Gly) : Prop where
  flat : st.1.flatten ++ st.2 = l
  full : ∀ r ∈ st.1, r ≠ []
  one : ∀ r ∈ st.1, ∀ x ∈ r, ∀ h, r[0]? = some h → x.2 = h.2
  oneC : ∀ x ∈ st.2, ∀ h, st.2[0]? = some h → x.2 = h.2
  diff : ∀ i a b x y, st.1[i]? = some a → (st.1 ++ [st.2])[i + 1]? = some b → a[0]? = some x → b[0]? = some y → x.2 ≠ y.2
  live : l ≠ [] → st.2 ≠ []

theorem RunOk.step {l : List Gly} {st : List (List Gly) × List Gly} (h : RunOk l st) (g : Gly) : RunOk (l ++ [g]) (runStep st g) := by
  obtain ⟨d, c⟩ := st
  cases c with
  | nil =>
    have hl : l = [] := by
      rcases l with _ | ⟨x, l⟩
      · rfl
      · exact absurd rfl (h.live (by simp))
    have hd : d = [] := by
      have hf := h.flat
      rw [hl] at hf
      rcases d with _ | ⟨r, d⟩
      · rfl
      · simp at hf
        exact absurd hf.1 (h.full r (by simp))
    subst hl hd
    refine ⟨rfl, fun r hr => by simp [runStep] at hr, fun r hr => by simp [runStep] at hr, fun x hx y hy => ?_, fun i a b x y ha => by simp [runStep] at ha, fun _ => by simp [runStep]⟩
    simp [runStep] at hx hy
    rw [hx, hy]
  | cons z c =>
    by_cases hz : z.2 = g.2
    · have e : runStep (d, z :: c) g = (d, z :: c ++ [g]) := by simp [runStep, hz]
      rw [e]
      refine ⟨by have := h.flat; simp only at this ⊢; rw [← List.append_assoc, this], h.full, h.one, fun x hx y hy => ?_, fun i a b x y ha hb hx hy => ?_, fun _ => by simp⟩
      · simp only [List.cons_append, List.getElem?_cons_zero, Option.some.injEq] at hy
        subst hy
        simp only [List.cons_append, List.mem_cons, List.mem_append, List.not_mem_nil, or_false] at hx
        rcases hx with rfl | hx | rfl
        · rfl
        · exact h.oneC x (by simp [hx]) z rfl
        · exact hz.symm
      · by_cases hi : i + 1 < d.length
        · simp only at hb
          rw [List.getElem?_append_left hi] at hb
          exact h.diff i a b x y ha (by simp only; rw [List.getElem?_append_left hi]; exact hb) hx hy
        · have hil := (List.getElem?_eq_some_iff.1 ha).1
          simp only at hil hb
          rw [List.getElem?_append_right (by omega), show i + 1 - d.length = 0 by omega] at hb
          simp only [List.getElem?_cons_zero, Option.some.injEq] at hb
          subst hb
          simp only [List.cons_append, List.getElem?_cons_zero, Option.some.injEq] at hy
          subst hy
          exact h.diff i a (z :: c) x z ha (by simp only; rw [List.getElem?_append_right (by omega), show i + 1 - d.length = 0 by omega]; rfl) hx rfl
    · have e : runStep (d, z :: c) g = (d ++ [z :: c], [g]) := by simp [runStep, hz]
      rw [e]
      refine ⟨by have := h.flat; simp only at this ⊢; simp [← this], fun r hr => ?_, fun r hr x hx y hy => ?_, fun x hx y hy => ?_, fun i a b x y ha hb hx hy => ?_, fun _ => by simp⟩
      · simp only [List.mem_append, List.mem_singleton] at hr
        rcases hr with hr | rfl
        · exact h.full r hr
        · simp
      · simp only [List.mem_append, List.mem_singleton] at hr
        rcases hr with hr | rfl
        · exact h.one r hr x hx y hy
        · exact h.oneC x hx y hy
      · simp at hx hy
        rw [hx, hy]
      · simp only at ha hb
        by_cases hi : i + 1 < (d ++ [z :: c]).length
        · rw [List.getElem?_append_left hi] at hb
          have hid : i < d.length := by simp at hi; omega
          rw [List.getElem?_append_left hid] at ha
          exact h.diff i a b x y ha hb hx hy
        · have hil := (List.getElem?_eq_some_iff.1 ha).1
          simp only [List.length_append, List.length_cons, List.length_nil] at hil hi
          rw [List.getElem?_append_right (by simp; omega), show i + 1 - (d ++ [z :: c]).length = 0 by simp; omega] at hb
          rw [List.getElem?_append_right (by omega), show i - d.length = 0 by omega] at ha
          simp only [List.getElem?_cons_zero, Option.some.injEq] at ha hb
          subst ha hb
          simp at hx hy
          rw [← hx, ← hy]
          exact hz
theorem runSt_ok (l : List Gly) : ∀ j, j ≤ l.length → RunOk (l.take j) (runSt (l.take j))
  | 0, _ => ⟨rfl, fun r hr => by simp [runSt] at hr, fun r hr => by simp [runSt] at hr, fun x hx => by simp [runSt] at hx, fun i a b x y ha => by simp [runSt] at ha, fun h => by simp at h⟩
  | j + 1, hj => by
    have hg : l[j]? = some l[j] := List.getElem?_eq_getElem (by omega)
    rw [runSt_take hg, List.take_add_one, hg]
    exact (runSt_ok l j (by omega)).step _

/-- Runs, one behind the other, are the row; none is empty; each is set in one way, not so from one to the next. -/
theorem runsL_flat (l : List Gly) : (runsL l).flatten = l := by
  have h := (runSt_ok l l.length (Nat.le_refl _)).flat
  rw [List.take_length] at h
  unfold runsL runEnd
  split
  · rename_i hc
    rw [hc, List.append_nil] at h
    exact h
  · simp [h]
theorem runsL_full (l : List Gly) : ∀ r ∈ runsL l, r ≠ [] := by
  have h := runSt_ok l l.length (Nat.le_refl _)
  rw [List.take_length] at h
  intro r hr
  unfold runsL runEnd at hr
  split at hr
  · exact h.full r hr
  · rename_i hc
    rcases List.mem_append.1 hr with hr | hr
    · exact h.full r hr
    · simp at hr; rw [hr]; exact hc
theorem runsL_one (l : List Gly) : ∀ r ∈ runsL l, ∀ x ∈ r, ∀ h, r[0]? = some h → x.2 = h.2 := by
  have h := runSt_ok l l.length (Nat.le_refl _)
  rw [List.take_length] at h
  intro r hr
  unfold runsL runEnd at hr
  split at hr
  · exact h.one r hr
  · rcases List.mem_append.1 hr with hr | hr
    · exact h.one r hr
    · simp at hr; rw [hr]; exact h.oneC
theorem runsL_diff (l : List Gly) (i : Nat) (a b : List Gly) (x y : Gly) (ha : (runsL l)[i]? = some a) (hb : (runsL l)[i + 1]? = some b) (hx : a[0]? = some x) (hy : b[0]? = some y) : x.2 ≠ y.2 := by
  have h := runSt_ok l l.length (Nat.le_refl _)
  rw [List.take_length] at h
  unfold runsL runEnd at ha hb
  split at ha
  · rename_i hc
    rw [if_pos hc] at hb
    exact h.diff i a b x y ha (by rw [List.getElem?_append_left (List.getElem?_eq_some_iff.1 hb).1]; exact hb) hx hy
  · rename_i hc
    rw [if_neg hc] at hb
    have hbl := (List.getElem?_eq_some_iff.1 hb).1
    simp at hbl
    rw [List.getElem?_append_left (by omega)] at ha
    exact h.diff i a b x y ha hb hx hy
theorem runsL_len (l : List Gly) : (runsL l).length ≤ l.length := by
  have hf := runsL_flat l
  have hn := runsL_full l
  have : ∀ rs : List (List Gly), (∀ r ∈ rs, r ≠ []) → rs.length ≤ rs.flatten.length := by
    intro rs
    induction rs with
    | nil => simp
    | cons r rs ih =>
      intro h
      have h1 : 0 < r.length := List.length_pos_iff.2 (h r (by simp))
      have h2 := ih (fun q hq => h q (by simp [hq]))
      simp only [List.flatten_cons, List.length_append, List.length_cons]
      omega
  have h2 := this _ hn
  rw [hf] at h2
  exact h2
end Go.Proofs.YtkiglnfapoifiaaDoor
