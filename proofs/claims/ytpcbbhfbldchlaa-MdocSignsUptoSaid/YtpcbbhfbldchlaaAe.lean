/- A phrase's words, bare, element; Pieces. A phrase's element. Pieces. Join of pieces. The chapter's example: what the laws' known asks. -/
import Derived.Test.YtpcbbhfbldchlaaA7
import Derived.Test.YtpcbbhfbldchlaaA8
import Derived.Test.YtpcbbhfbldchlaaA9
import Derived.Test.YtpcbbhfbldchlaaJ4
set_option linter.unusedVariables false
set_option linter.unusedSimpArgs false
namespace Go.Proofs.Ytpcbbhfbldchlaa
open Go.RowKit
/-- How much a phrase holds. -/
structure PB (s : Ph) (a b : Nat) : Prop where
  p : s.p.length ≤ a
  d : s.d.length ≤ 800 * b
  n : s.name.length ≤ 800
  o : s.op ≤ a
  g : pcL s.p ≤ 2 * a + 804 * b
theorem pcL_snoc (l : List Pc) (p : Pc) : pcL (l ++ [p]) = pcL l + 1 + p.g.length := by
  induction l with
  | nil => simp [pcL]
  | cons y l ih => simp only [List.cons_append, pcL, ih]; omega
theorem sign_one {t : Txt} (h : signW t = true) : t.length = 1 := by
  unfold signW leftW rightW at h
  simp only [Bool.or_eq_true, beq_iff_eq] at h
  rcases h with (((((((h | h) | h) | h) | h) | h) | h) | h) | (h | h) <;> rw [h] <;> rfl
theorem ofG_le (f : Int) (t : Txt) : (ofG f t).length ≤ t.length := by unfold ofG; rw [List.length_map]; exact dec_le t
theorem wordG_len (k : Txt) (n : Nat) (t : Txt) : (wordG k n t).length ≤ t.length + 2 := by
  have h1 := (lgW_len (wset k n) t).1
  have h2 := ofG_le (wset k n) (wahead k n)
  have h3 := ofG_le (wset k n) (wbehind k n)
  have h4 : (wahead k n).length ≤ 1 := by
    unfold wahead
    split
    · simp
    · split <;> simp
  have h5 : (wbehind k n).length ≤ 1 := by
    unfold wbehind
    split <;> simp
  unfold wordG
  simp only [List.length_append]
  omega
theorem PB.mono {s : Ph} {a b a' b' : Nat} (h : PB s a b) (ha : a ≤ a') (hb : b ≤ b') : PB s a' b' := ⟨by have := h.p; omega, by have := h.d; omega, h.n, by have := h.o; omega, by have := h.g; omega⟩
theorem PB.word {s : Ph} {a b : Nat} (h : PB s a b) (k t : Txt) (n : Nat) (ht : t.length ≤ 800) : PB (wordP k n t s) (a + 1) (b + 1) := by
  have h1 := h.p; have h2 := h.d; have h3 := h.n; have h4 := h.o
  have h5 := (lgW_len (wset k n) t).2
  have h6 := h.g
  have h7 := wordG_len k n t
  refine ⟨by unfold wordP; simp; omega, by unfold wordP; simp; omega, ?_, by unfold wordP; simp only; omega, by unfold wordP; simp only [pcL_snoc]; omega⟩
  unfold wordP
  simp only
  split
  · exact ht
  · exact h3
theorem PB.sign {s : Ph} {a b : Nat} (h : PB s a b) (t : Txt) : PB (s.sign t) (a + 1) b := by
  unfold Ph.sign
  split
  · rename_i hs
    have h1 := sign_one hs
    have h2 := ofG_le 0 t
    have h3 := h.g
    exact ⟨by have := h.p; simp; omega, h.d, h.n, by have := h.o; simp only; omega, by simp only [pcL_snoc, signP]; omega⟩
  · exact h.mono (by omega) (Nat.le_refl _)
theorem PB.opn {s : Ph} {a b : Nat} (h : PB s a b) (k : Txt) : PB (opP k s) (a + 1) b := by
  unfold opP
  split
  · have h1 := h.p; have h4 := h.o; have h5 := h.g
    have h6 := ofG_le 0 [91]
    unfold Ph.sign
    split
    · exact ⟨by simp; omega, h.d, h.n, by simp only; omega, by simp only [pcL_snoc, signP, List.length_cons, List.length_nil] at h6 ⊢; omega⟩
    · exact ⟨by simp only; omega, h.d, h.n, by simp only; omega, by simp only; omega⟩
  · exact h.mono (by omega) (Nat.le_refl _)
theorem PB.bare {s : Ph} {a b : Nat} (h : PB s a b) (k : Txt) : PB (bareP k s) (a + 2) (b + 1) := by
  unfold bareP
  split
  · have h1 := h.p; have h2 := h.d; have h3 := h.n; have h4 := h.o
    rename_i hk
    subst hk
    have e1 := (lgW_len (wset cAr 0) wFile).2
    have e2 := (lgW_len (wset cAr 0) wDots).2
    have e3 : wFile.length = 4 := rfl
    have e4 : wDots.length = 3 := rfl
    have h6 := h.g
    have g1 := wordG_len cAr 0 wFile
    have g2 := wordG_len cAr 0 wDots
    refine ⟨by unfold wordP; simp; omega, by unfold wordP; simp; omega, ?_, by unfold wordP; simp only; omega, by unfold wordP; simp only [pcL_snoc]; omega⟩
    unfold wordP
    simp only
    rw [if_neg (by intro q; exact absurd q.1 (by decide)), if_neg (by intro q; exact absurd q.1 (by decide))]
    exact h3
  · split
    · exact (h.word _ _ _ (by simp)).mono (by omega) (by omega)
    · split
      · exact (h.word _ _ _ h.n).mono (by omega) (by omega)
      · exact h.mono (by omega) (by omega)
theorem PB.bar {s : Ph} {a b : Nat} (h : PB s a b) (k : Txt) (ws : List Txt) : PB (barP k ws s) (a + 2) (b + 1) := by
  unfold barP
  split
  · exact h.mono (by omega) (by omega)
  · exact h.bare k
theorem PB.words {k : Txt} : ∀ (ws : List Txt) (q : Ph × Nat) (a b : Nat), PB q.1 a b → (∀ w ∈ ws, w.length ≤ 800) → PB (ws.foldl (stepW k) q).1 (a + ws.length) (b + ws.length)
  | [], q, a, b, h, _ => h
  | w :: ws, q, a, b, h, hw => by
    have h1 : PB (stepW k q w).1 (a + 1) (b + 1) := by
      unfold stepW
      split
      · exact (h.sign w).mono (Nat.le_refl _) (by omega)
      · exact h.word k w _ (hw w (by simp))
    have := PB.words (k := k) ws _ _ _ h1 (fun x hx => hw x (by simp [hx]))
    exact this.mono (by simp; omega) (by simp; omega)
theorem PB.elem {s : Ph} {a b : Nat} (h : PB s a b) (k : Txt) (ws : List Txt) (hw : ∀ w ∈ ws, w.length ≤ 800) : PB (elemP k ws s) (a + 3 + ws.length) (b + 1 + ws.length) :=
  PB.words ws _ _ _ ((h.opn k).bar k ws) hw
theorem snocRec {α : Type} {P : List α → Prop} (h0 : P []) (h1 : ∀ l x, P l → P (l ++ [x])) : ∀ l, P l := fun l => by
  have : ∀ n (l : List α), l.length = n → P l := fun n => by
    induction n with
    | zero => intro l hl; rw [List.eq_nil_of_length_eq_zero hl]; exact h0
    | succ n ih =>
      intro l hl
      rcases List.eq_nil_or_concat l with e | ⟨r, z, e⟩
      · rw [e]; exact h0
      · have e2 : l = r ++ [z] := by simpa using e
        rw [e2]
        rw [e2] at hl
        exact h1 r z (ih r (by simpa using hl))
  exact this _ l rfl
theorem PB.run (name : Txt) (hn : name.length ≤ 800) : ∀ (l : List Txt), (∀ w ∈ l, w.length ≤ 800) → ∃ a b, PB (runP name l).s a b ∧ a + (runP name l).ws.length ≤ 4 * l.length ∧ b + (runP name l).ws.length ≤ 2 * l.length ∧ ∀ w ∈ (runP name l).ws, w.length ≤ 800 := by
  intro l
  refine snocRec (P := fun l => (∀ w ∈ l, w.length ≤ 800) → ∃ a b, PB (runP name l).s a b ∧ a + (runP name l).ws.length ≤ 4 * l.length ∧ b + (runP name l).ws.length ≤ 2 * l.length ∧ ∀ w ∈ (runP name l).ws, w.length ≤ 800) ?_ ?_ l
  · exact fun _ => ⟨0, 0, ⟨Nat.le_refl _, Nat.le_refl _, hn, Nat.le_refl _, Nat.le_refl _⟩, Nat.le_refl _, Nat.le_refl _, fun w h => by cases h⟩
  · intro l w ih hl
    obtain ⟨a, b, h1, h2, h3, h4⟩ := ih (fun x hx => hl x (by simp [hx]))
    have e : runP name (l ++ [w]) = stepP (runP name l) w := by unfold runP; rw [List.foldl_append]; rfl
    rw [e]
    unfold stepP
    split
    · refine ⟨a + 3 + (runP name l).ws.length, b + 1 + (runP name l).ws.length, h1.elem _ _ h4, ?_, ?_, fun x hx => by cases hx⟩
      · simp; omega
      · simp; omega
    · refine ⟨a, b, h1, ?_, ?_, fun x hx => ?_⟩
      · simp; omega
      · simp; omega
      · rcases List.mem_append.1 hx with q | q
        · exact h4 x q
        · rw [List.mem_singleton.1 q]; exact hl w (by simp)
theorem PB.last (name : Txt) (hn : name.length ≤ 800) (l : List Txt) (hl : ∀ w ∈ l, w.length ≤ 800) : PB (lastP name l) (4 * l.length + 3) (2 * l.length + 1) := by
  obtain ⟨a, b, h1, h2, h3, h4⟩ := PB.run name hn l hl
  exact (h1.elem _ _ h4).mono (by omega) (by omega)
theorem PB.shut : ∀ (n : Nat) (s : Ph) (a b : Nat), PB s a b → PB (shutP n s) (a + n) b
  | 0, s, a, b, h => h
  | n + 1, s, a, b, h => (PB.shut n _ _ _ (h.sign [93])).mono (by omega) (Nat.le_refl _)
theorem PB.phr (name : Txt) (hn : name.length ≤ 800) (l : List Txt) (hl : ∀ w ∈ l, w.length ≤ 800) : PB (phr name l) (8 * l.length + 6) (2 * l.length + 1) := by
  have h := PB.last name hn l hl
  exact (PB.shut _ _ _ _ h).mono (by have := h.o; omega) (Nat.le_refl _)
section
variable {base : Nat} {w : World} {B : Nat} {s : Ph}
/-- A word, of whatever kind. -/
theorem word_any (h : PhM base w B s) (k t : Txt) (n : Nat) (ht : t.length ≤ 2000) (hp : s.p.length ≤ 500000) (hd : s.d.length ≤ 500000) :
    Calls Try.prog 18 #[.pointer (some ⟨B, 0, none⟩), .string ⟨k.toArray⟩, .int .i64 (n : Int), .string ⟨t.toArray⟩] w (PhRet base w B (.tuple #[]) (wordP k n t s)) := by
  by_cases c1 : k = cFl ∨ k = cCm ∨ k = cSy ∨ k = cAr ∨ k = cEm
  · exact word_A h k t n c1 ht hp hd
  · by_cases c2 : k = cXr
    · subst c2
      by_cases n1 : n = 1
      · subst n1
        exact word_X h t ht hp hd
      · by_cases n0 : n = 0
        · exact word_B h cXr t n (.inl ⟨rfl, n0⟩) ht hp hd
        · exact word_B h cXr t n (.inr (.inl ⟨rfl, n0, n1⟩)) ht hp hd
    · by_cases c3 : k = cNm
      · subst c3
        by_cases hne : s.name = []
        · exact word_N h t n hne ht hp hd
        · exact word_B h cNm t n (.inr (.inr (.inl ⟨rfl, hne⟩))) ht hp hd
      · simp only [not_or] at c1
        exact word_B h k t n (.inr (.inr (.inr ⟨c1.1, c1.2.1, c3, c1.2.2.1, c2, c1.2.2.2.1, c1.2.2.2.2⟩))) ht hp hd
set_option maxRecDepth 100000 in
set_option maxHeartbeats 4000000 in
theorem bare_any (h : PhM base w B s) (k : Txt) {a b : Nat} (hb : PB s a b) (ha : a ≤ 5000) (hb2 : b ≤ 600) :
    Calls Try.prog 17 #[.pointer (some ⟨B, 0, none⟩), .string ⟨k.toArray⟩] w (PhRet base w B (.tuple #[]) (bareP k s)) := by
  have h1 := hb.p; have h2 := hb.d; have h3 := hb.n
  by_cases c1 : k = cAr
  · subst c1
    have e : bareP cAr s = wordP cAr 0 wDots (wordP cAr 0 wFile s) := rfl
    have HB := hb.word cAr wFile 0 (by decide)
    have H1 := Lib.hid (word_any h cAr wFile 0 (by decide) (by omega) (by omega))
    have H2 : Hid (∀ w2, PhM base w2 B (wordP cAr 0 wFile s) → Calls Try.prog 18 #[.pointer (some ⟨B, 0, none⟩), .string ⟨cAr.toArray⟩, .int .i64 0, .string ⟨wDots.toArray⟩] w2 (PhRet base w2 B (.tuple #[]) (wordP cAr 0 wDots (wordP cAr 0 wFile s)))) := Lib.hid (fun w2 hw => word_any hw cAr wDots 0 (by decide) (by have := HB.p; omega) (by have := HB.d; omega))
    rw [e]
    clear h hb h1 h2 h3 HB e
    go_enter Try.func17, Try.ntmps17
    go_wp2_with fail
    refine H1.out.mono ?_
    rintro e w2 ⟨rfl, m1, b1⟩
    have H3 := Lib.hid (H2.out w2 m1)
    have B1 := Lib.hid b1
    clear m1 b1 H1 H2
    go_wp2_with fail
    refine H3.out.mono ?_
    rintro e w3 ⟨rfl, m1, b1⟩
    have M2 := Lib.hid m1
    have B2 := Lib.hid (B1.out.trans b1)
    clear m1 b1 H3
    go_wp2_with fail
    go_end0
    exact ⟨rfl, M2.out, B2.out⟩
  · by_cases c2 : k = cFl
    · subst c2
      have e : bareP cFl s = wordP cFl 0 [] s := rfl
      have H1 := Lib.hid (word_any h cFl [] 0 (by decide) (by omega) (by omega))
      rw [e]
      clear h hb h1 h2 h3 e c1
      go_enter Try.func17, Try.ntmps17
      go_wp2_with fail
      refine H1.out.mono ?_
      rintro e w2 ⟨rfl, m1, b1⟩
      have M2 := Lib.hid m1
      have B2 := Lib.hid b1
      clear m1 b1 H1
      go_wp2_with fail
      go_end0
      exact ⟨rfl, M2.out, B2.out⟩
    · by_cases c3 : k = cNm
      · subst c3
        have e : bareP cNm s = wordP cNm 0 s.name s := rfl
        have H1 := Lib.hid (word_any h cNm s.name 0 (by omega) (by omega) (by omega))
        have c0 : w.cell? ⟨B, 0, none⟩ = some (.string ⟨s.name.toArray⟩) := by
          obtain ⟨pr, dv, P, hv⟩ := h
          exact hv.box.cell 0
        rw [e]
        clear h hb h1 h2 h3 e c1 c2
        go_enter Try.func17, Try.ntmps17
        go_wp2_with fail
        refine H1.out.mono ?_
        rintro e w2 ⟨rfl, m1, b1⟩
        have M2 := Lib.hid m1
        have B2 := Lib.hid b1
        clear m1 b1 H1
        go_wp2_with fail
        go_end0
        exact ⟨rfl, M2.out, B2.out⟩
      · have e : bareP k s = s := by unfold bareP; rw [if_neg c1, if_neg c2, if_neg c3]
        have d1 := beq_no c1
        have d2 := beq_no c2
        have d3 := beq_no c3
        simp only [cAr, cFl, cNm] at d1 d2 d3
        have M2 := Lib.hid h
        rw [e]
        clear h hb h1 h2 h3 e c1 c2 c3
        go_enter Try.func17, Try.ntmps17
        go_wp2_with fail
        go_end0
        exact ⟨rfl, M2.out, Below.refl _ _⟩
end
def IdxW (w : World) (q : Bool) (e : Ending) (w' : World) : Prop := (∃ i : Int, e = .returned (.int .i64 i) ∧ decide (0 ≤ i) = q) ∧ w = w'
theorem anyw_next {l : List Txt} {p : Nat} {y : Txt} {P : Txt → Bool} (h : (l.take p).any P = false) (hy : l[p]? = some y) (hP : P y = false) : (l.take (p + 1)).any P = false := by
  rw [List.take_add_one, hy, List.any_append, h]
  simp [hP]
theorem anyw_hit {l : List Txt} {p : Nat} {y : Txt} {P : Txt → Bool} (hy : l[p]? = some y) (hP : P y = true) : l.any P = true := List.any_eq_true.2 ⟨y, List.mem_iff_getElem?.2 ⟨p, hy⟩, hP⟩
set_option maxRecDepth 100000 in
set_option maxHeartbeats 2000000 in
theorem idxspoken_any (l : List Txt) (v : Value) (w : World) (hv : Ss w v l) (hl : l.length ≤ 1000000) :
    Calls Try.prog 22 #[v, .func (.func 16) #[] #[]] w (IdxW w (spoken l)) := by
  have HV := Lib.hid hv
  obtain ⟨aa, ca, rfl, -, -⟩ := hv
  have HB := Lib.hid (fun x W => dspoken_any x W)
  unfold spoken
  go_enter Try.func22, Try.ntmps22
  go_wp2_with fail
  go_loopw [5, 8] (fun _ i wr => ∃ p : Nat, i = .int .i64 (p : Int) ∧ p ≤ l.length ∧ (l.take p).any (fun w => !signW w) = false ∧ wr = w) (fun _ i _ => l.length - (intOf i).toNat)
  case atStart => exact ⟨0, rfl, by omega, by simp, rfl⟩
  case round =>
    obtain ⟨p, rfl, hp, hno, rfl⟩ := hrel
    have HN := Lib.hid hno
    clear hno
    by_cases hlt : p < l.length
    · obtain ⟨x, hx⟩ : ∃ x, l[p]? = some x := ⟨l[p], List.getElem?_eq_getElem hlt⟩
      have HXX := Lib.hid hx
      obtain ⟨g, off, rfl, c0⟩ := Ss.at HV.out hx
      have hlt' : (p : Int) < (l.length : Int) := by omega
      have hp0 : (0 : Int) ≤ (p : Int) := by omega
      have H1 := Lib.hid (HB.out x wr)
      obtain ⟨q, hq⟩ : ∃ q, (!signW x) = q := ⟨_, rfl⟩
      rw [hq] at H1
      have HQ := Lib.hid hq
      clear hx hq
      go_wp2_with fail
      refine H1.out.mono ?_
      rintro e w1 ⟨rfl, rfl⟩
      clear H1
      cases q
      · go_wp2_with fail
        go_roundw
        case rel => exact ⟨p + 1, by go_num, by omega, anyw_next HN.out HXX.out HQ.out, by first | rfl | trivial⟩
        case measure => simp [intOf]; omega
      · go_wp2_with fail
        go_ret
        exact ⟨⟨(p : Int), rfl, by rw [anyw_hit (P := fun w => !signW w) HXX.out HQ.out]; simp⟩, rfl⟩
    · obtain rfl : p = l.length := by omega
      have hlt' : ¬ (l.length : Int) < (l.length : Int) := by omega
      have hall : l.any (fun w => !signW w) = false := by have := HN.out; rwa [List.take_length] at this
      have HALL := Lib.hid hall
      clear hall HN
      go_wp2_with fail
      go_ret
      exact ⟨⟨(-1 : Int), rfl, by rw [HALL.out]; decide⟩, rfl⟩
theorem retw_bool {P : Prop} [Decidable P] {b : Bool} (h : decide P = b) : Ending.returned (Value.bool (decide P)) = .returned (.bool b) := by rw [h]
set_option maxHeartbeats 2000000 in
theorem conspoken_any (l : List Txt) (v : Value) (w : World) (hv : Ss w v l) (hl : l.length ≤ 1000000) :
    Calls Try.prog 15 #[v, .func (.func 16) #[] #[]] w fun e w' => e = .returned (.bool (spoken l)) ∧ w = w' := by
  have H := Lib.hid (idxspoken_any l v w hv hl)
  clear hv
  generalize spoken l = q at H ⊢
  go_enter Try.func15, Try.ntmps15
  go_wp2_with fail
  refine H.out.mono ?_
  rintro e w1 ⟨⟨i, rfl, hi⟩, rfl⟩
  have HI := Lib.hid hi
  clear hi H
  go_wp2_with fail
  go_ret
  exact ⟨retw_bool HI.out, rfl⟩
end Go.Proofs.Ytpcbbhfbldchlaa
namespace Go.Proofs.Ytpcbbhfbldchlaa
open Go.RowKit
section
variable {base : Nat} {w : World} {B : Nat} {s : Ph}
set_option maxRecDepth 100000 in
set_option maxHeartbeats 4000000 in
theorem element_any {w0 : World} (hb : Below w0.heap.size w0 w) {v : Value} {ws : List Txt} (hv : Ss w0 v ws) (h : PhM w0.heap.size w B s) (k : Txt) (hw : ∀ x ∈ ws, x.length ≤ 800) {a b : Nat} (hB : PB s a b) (ha : a + 3 + ws.length ≤ 4000) (hb2 : b + 1 + ws.length ≤ 600) :
    Calls Try.prog 12 #[.pointer (some ⟨B, 0, none⟩), .string ⟨k.toArray⟩, v] w (PhRet w0.heap.size w B (.tuple #[]) (elemP k ws s)) := by
  have HV : Hid (∀ W, Below w0.heap.size w W → Ss W v ws) := Lib.hid (fun W hW => Fs.below hv (hb.trans hW))
  have HW := Lib.hid hw
  obtain ⟨va, vc, rfl⟩ := hv.len
  clear hv hw hb
  by_cases hk : k = cOp
  · subst hk
    have hs2 : opP cOp s = ({ s with op := s.op + 1 } : Ph).sign [91] := rfl
    have hB1 := hB.opn cOp
    have ho := hB.o
    obtain ⟨pr, dv, P, hvv⟩ := h
    have c1 : w.cell? ⟨B, 1, none⟩ = some (.int .i64 (s.op : Int)) := hvv.box.cell 1
    have f1 : w.frozen? ⟨B, 1, none⟩ = false := hvv.box.frozen (by simp)
    have hop : (s.op : Int) ≤ 5000 := by omega
    have hop0 : (0 : Int) ≤ (s.op : Int) := by omega
    have hwr : wrap64 ((s.op : Int) + 1) = (s.op : Int) + 1 := by unfold wrap64; omega
    have ew : ((s.op + 1 : Nat) : Int) = (s.op : Int) + 1 := by omega
    obtain ⟨h2, b2⟩ := hvv.set 1 (.int .i64 ((s.op : Int) + 1)) (s' := { s with op := s.op + 1 }) (by simp) rfl rfl
    have HSG := Lib.hid (sign_any (s := { s with op := s.op + 1 }) ⟨_, _, _, h2⟩ [91] (by decide) (by have := hB.p; simp only; omega))
    have HB0 := Lib.hid b2
    obtain ⟨s2, hs2'⟩ : ∃ s2, opP cOp s = s2 := ⟨_, rfl⟩
    rw [← hs2, hs2', show signW [91] = true by decide] at HSG
    rw [hs2'] at hB1
    have hs2 := hs2'
    clear hvv h2 b2 hs2' hB ho
    go_enter Try.func12, Try.ntmps12
    go_step3
    go_wp2_with fail
    refine HSG.out.mono ?_
    rintro e w2 ⟨rfl, m1, b1⟩
    have M1 := Lib.hid m1
    have B1 := Lib.hid (HB0.out.trans b1)
    clear m1 b1 HSG HB0 c1 f1 hop ew
    go_wp2_with fail
    have HS := Lib.hid (conspoken_any ws _ w2 (HV.out w2 B1.out) (by omega))
    go_wp2_with fail
    refine HS.out.mono ?_
    rintro e w3 ⟨rfl, rfl⟩
    clear HS
    cases hsp : spoken ws with
    | true =>
      have HEL : Hid (elemP cOp ws s = ((ws.foldl (stepW cOp) (s2, 0)).1)) := Lib.hid (by unfold elemP wordsP barP; rw [if_pos hsp, hs2])
      have hB2 := hB1.mono (show _ ≤ a + 3 by omega) (show _ ≤ b + 1 by omega)
      have M2 := M1
      have B2 := B1
      clear hsp hs2 hB1 M1 B1
      have HB2 := Lib.hid hB2
      go_wp2_with fail
      go_step3
      go_wp2_with fail
      go_loopw [6, 8, 28] (fun n _ i wr => ∃ j m : Nat, j ≤ ws.length ∧ m ≤ j ∧ i = .int .i64 (j : Int) ∧ n = .int .i64 (m : Int) ∧ Hid (PhM w0.heap.size wr B ((ws.take j).foldl (stepW cOp) (s2, 0)).1 ∧ ((ws.take j).foldl (stepW cOp) (s2, 0)).2 = m) ∧ Hid (Below w0.heap.size w wr)) (fun _ _ i _ => ws.length - (intOf i).toNat)
      case atStart => exact ⟨0, 0, by omega, by omega, rfl, rfl, Lib.hid ⟨M2.out, rfl⟩, B2⟩
      case round =>
        obtain ⟨j, m, hj, hm, rfl, rfl, HM, HBW⟩ := hrel
        by_cases hlt : j < ws.length
        · obtain ⟨x, hx⟩ : ∃ x, ws[j]? = some x := ⟨ws[j], List.getElem?_eq_getElem hlt⟩
          have hxl := HW.out x (List.mem_of_getElem? hx)
          obtain ⟨g, off, rfl, c0⟩ := Ss.at (HV.out wr HBW.out) hx
          have hnx := foldl_take (stepW cOp) (s2, 0) hx
          have hpb := PB.words (k := cOp) (ws.take j) (s2, 0) _ _ HB2.out (fun y hy => HW.out y (List.mem_of_mem_take hy))
          rw [List.length_take, Nat.min_eq_left hj] at hpb
          obtain ⟨st, hst⟩ : ∃ st, (ws.take j).foldl (stepW cOp) (s2, 0) = st := ⟨_, rfl⟩
          rw [hst] at HM hnx hpb
          obtain ⟨sp, sm⟩ := st
          obtain rfl : sm = m := HM.out.2
          have hp1 := hpb.p
          have hp2 := hpb.d
          simp only at hp1 hp2
          have HS := Lib.hid (sign_any (s := sp) HM.out.1 x (by omega) (by omega))
          have HWd : Hid (∀ w2, PhM w0.heap.size w2 B sp → Calls Try.prog 18 #[.pointer (some ⟨B, 0, none⟩), .string ⟨cOp.toArray⟩, .int .i64 (sm : Int), .string ⟨x.toArray⟩] w2 (PhRet w0.heap.size w2 B (.tuple #[]) (wordP cOp sm x sp))) := Lib.hid (fun w2 h2 => word_any h2 cOp x sm (by omega) (by omega) (by omega))
          have hlt' : (j : Int) < (ws.length : Int) := by omega
          have hj0 : (0 : Int) ≤ (j : Int) := by omega
          have hsm : (sm : Int) ≤ 1000 := by omega
          by_cases hs : signW x = true
          · have e : stepW cOp (sp, sm) x = (sp.sign x, sm) := by unfold stepW; rw [if_pos hs]
            rw [e] at hnx
            rw [hs] at HS
            have HN := Lib.hid hnx
            clear hx hnx hst hpb hp1 hp2 HM hxl hs e HWd
            go_wp2_with fail
            refine HS.out.mono ?_
            rintro e w2 ⟨rfl, m1, b1⟩
            have M3 : Hid (PhM w0.heap.size w2 B ((ws.take (j + 1)).foldl (stepW cOp) (s2, 0)).1 ∧ ((ws.take (j + 1)).foldl (stepW cOp) (s2, 0)).2 = sm) := Lib.hid (by rw [HN.out]; exact ⟨m1, rfl⟩)
            have B3 := Lib.hid (HBW.out.trans b1)
            clear m1 b1 HN HS
            go_wp2_with fail
            go_roundw
            case rel => exact ⟨j + 1, sm, by omega, by omega, by go_num, by first | rfl | trivial, M3, B3⟩
            case measure => (simp [intOf]; try omega)
          · have e : stepW cOp (sp, sm) x = (wordP cOp sm x sp, sm + 1) := by unfold stepW; rw [if_neg hs]
            have e2 : sp.sign x = sp := by unfold Ph.sign; rw [if_neg hs]
            rw [e] at hnx
            rw [e2, show signW x = false by simpa using hs] at HS
            have HN := Lib.hid hnx
            clear hx hnx hst hpb hp1 hp2 HM hxl hs e e2
            go_wp2_with fail
            refine HS.out.mono ?_
            rintro e w2 ⟨rfl, m1, b1⟩
            have HWE := Lib.hid (HWd.out w2 m1)
            have B3 := Lib.hid (HBW.out.trans b1)
            clear m1 b1 HS HWd
            go_wp2_with fail
            refine HWE.out.mono ?_
            rintro e w3 ⟨rfl, m1, b1⟩
            have M4 : Hid (PhM w0.heap.size w3 B ((ws.take (j + 1)).foldl (stepW cOp) (s2, 0)).1 ∧ ((ws.take (j + 1)).foldl (stepW cOp) (s2, 0)).2 = sm + 1) := Lib.hid (by rw [HN.out]; exact ⟨m1, rfl⟩)
            have B4 := Lib.hid (B3.out.trans b1)
            clear m1 b1 HN HWE
            go_wp2_with fail
            go_roundw
            case rel => exact ⟨j + 1, sm + 1, by omega, by omega, by go_num, by go_num, M4, B4⟩
            case measure => (simp [intOf]; try omega)
        · obtain rfl : j = ws.length := by omega
          have hlt' : ¬ (ws.length : Int) < (ws.length : Int) := by omega
          have MF : Hid (PhM w0.heap.size wr B (elemP cOp ws s)) := Lib.hid (by
            have := HM.out.1
            rw [List.take_length] at this
            rw [HEL.out]
            exact this)
          clear HM
          go_wp2_with fail
          go_end0
          exact ⟨rfl, MF.out, HBW.out⟩
    | false =>
      have HBR := Lib.hid (bare_any M1.out cOp hB1 (by omega) (by omega))
      have hB2 := (hB1.bare cOp).mono (show _ ≤ a + 3 by omega) (show _ ≤ b + 1 by omega)
      obtain ⟨s3, hs3⟩ : ∃ s3, bareP cOp s2 = s3 := ⟨_, rfl⟩
      have HEL : Hid (elemP cOp ws s = ((ws.foldl (stepW cOp) (s3, 0)).1)) := Lib.hid (by unfold elemP wordsP barP; rw [if_neg (by rw [hsp]; simp), hs2, hs3])
      rw [hs3] at HBR hB2
      clear hsp hs2 hB1 M1 hs3
      go_wp2_with fail
      refine HBR.out.mono ?_
      rintro e w4 ⟨rfl, m1, b1⟩
      have M2 := Lib.hid m1
      have B2 := Lib.hid (B1.out.trans b1)
      clear m1 b1 HBR B1
      have HB2 := Lib.hid hB2
      go_wp2_with fail
      go_step3
      go_wp2_with fail
      go_loopw [6, 8, 28] (fun n _ i wr => ∃ j m : Nat, j ≤ ws.length ∧ m ≤ j ∧ i = .int .i64 (j : Int) ∧ n = .int .i64 (m : Int) ∧ Hid (PhM w0.heap.size wr B ((ws.take j).foldl (stepW cOp) (s3, 0)).1 ∧ ((ws.take j).foldl (stepW cOp) (s3, 0)).2 = m) ∧ Hid (Below w0.heap.size w wr)) (fun _ _ i _ => ws.length - (intOf i).toNat)
      case atStart => exact ⟨0, 0, by omega, by omega, rfl, rfl, Lib.hid ⟨M2.out, rfl⟩, B2⟩
      case round =>
        obtain ⟨j, m, hj, hm, rfl, rfl, HM, HBW⟩ := hrel
        by_cases hlt : j < ws.length
        · obtain ⟨x, hx⟩ : ∃ x, ws[j]? = some x := ⟨ws[j], List.getElem?_eq_getElem hlt⟩
          have hxl := HW.out x (List.mem_of_getElem? hx)
          obtain ⟨g, off, rfl, c0⟩ := Ss.at (HV.out wr HBW.out) hx
          have hnx := foldl_take (stepW cOp) (s3, 0) hx
          have hpb := PB.words (k := cOp) (ws.take j) (s3, 0) _ _ HB2.out (fun y hy => HW.out y (List.mem_of_mem_take hy))
          rw [List.length_take, Nat.min_eq_left hj] at hpb
          obtain ⟨st, hst⟩ : ∃ st, (ws.take j).foldl (stepW cOp) (s3, 0) = st := ⟨_, rfl⟩
          rw [hst] at HM hnx hpb
          obtain ⟨sp, sm⟩ := st
          obtain rfl : sm = m := HM.out.2
          have hp1 := hpb.p
          have hp2 := hpb.d
          simp only at hp1 hp2
          have HS := Lib.hid (sign_any (s := sp) HM.out.1 x (by omega) (by omega))
          have HWd : Hid (∀ w2, PhM w0.heap.size w2 B sp → Calls Try.prog 18 #[.pointer (some ⟨B, 0, none⟩), .string ⟨cOp.toArray⟩, .int .i64 (sm : Int), .string ⟨x.toArray⟩] w2 (PhRet w0.heap.size w2 B (.tuple #[]) (wordP cOp sm x sp))) := Lib.hid (fun w2 h2 => word_any h2 cOp x sm (by omega) (by omega) (by omega))
          have hlt' : (j : Int) < (ws.length : Int) := by omega
          have hj0 : (0 : Int) ≤ (j : Int) := by omega
          have hsm : (sm : Int) ≤ 1000 := by omega
          by_cases hs : signW x = true
          · have e : stepW cOp (sp, sm) x = (sp.sign x, sm) := by unfold stepW; rw [if_pos hs]
            rw [e] at hnx
            rw [hs] at HS
            have HN := Lib.hid hnx
            clear hx hnx hst hpb hp1 hp2 HM hxl hs e HWd
            go_wp2_with fail
            refine HS.out.mono ?_
            rintro e w2 ⟨rfl, m1, b1⟩
            have M3 : Hid (PhM w0.heap.size w2 B ((ws.take (j + 1)).foldl (stepW cOp) (s3, 0)).1 ∧ ((ws.take (j + 1)).foldl (stepW cOp) (s3, 0)).2 = sm) := Lib.hid (by rw [HN.out]; exact ⟨m1, rfl⟩)
            have B3 := Lib.hid (HBW.out.trans b1)
            clear m1 b1 HN HS
            go_wp2_with fail
            go_roundw
            case rel => exact ⟨j + 1, sm, by omega, by omega, by go_num, by first | rfl | trivial, M3, B3⟩
            case measure => (simp [intOf]; try omega)
          · have e : stepW cOp (sp, sm) x = (wordP cOp sm x sp, sm + 1) := by unfold stepW; rw [if_neg hs]
            have e2 : sp.sign x = sp := by unfold Ph.sign; rw [if_neg hs]
            rw [e] at hnx
            rw [e2, show signW x = false by simpa using hs] at HS
            have HN := Lib.hid hnx
            clear hx hnx hst hpb hp1 hp2 HM hxl hs e e2
            go_wp2_with fail
            refine HS.out.mono ?_
            rintro e w2 ⟨rfl, m1, b1⟩
            have HWE := Lib.hid (HWd.out w2 m1)
            have B3 := Lib.hid (HBW.out.trans b1)
            clear m1 b1 HS HWd
            go_wp2_with fail
            refine HWE.out.mono ?_
            rintro e w3 ⟨rfl, m1, b1⟩
            have M4 : Hid (PhM w0.heap.size w3 B ((ws.take (j + 1)).foldl (stepW cOp) (s3, 0)).1 ∧ ((ws.take (j + 1)).foldl (stepW cOp) (s3, 0)).2 = sm + 1) := Lib.hid (by rw [HN.out]; exact ⟨m1, rfl⟩)
            have B4 := Lib.hid (B3.out.trans b1)
            clear m1 b1 HN HWE
            go_wp2_with fail
            go_roundw
            case rel => exact ⟨j + 1, sm + 1, by omega, by omega, by go_num, by go_num, M4, B4⟩
            case measure => (simp [intOf]; try omega)
        · obtain rfl : j = ws.length := by omega
          have hlt' : ¬ (ws.length : Int) < (ws.length : Int) := by omega
          have MF : Hid (PhM w0.heap.size wr B (elemP cOp ws s)) := Lib.hid (by
            have := HM.out.1
            rw [List.take_length] at this
            rw [HEL.out]
            exact this)
          clear HM
          go_wp2_with fail
          go_end0
          exact ⟨rfl, MF.out, HBW.out⟩
  · have hs2' : opP k s = s := by unfold opP; rw [if_neg hk]
    have d1 := beq_no hk
    simp only [cOp] at d1
    have hB1 := hB.mono (show a ≤ a + 1 by omega) (Nat.le_refl b)
    obtain ⟨s2, hs⟩ : ∃ s2, s = s2 := ⟨_, rfl⟩
    obtain ⟨w2, hw2⟩ : ∃ w2, w = w2 := ⟨_, rfl⟩
    have hs2 : opP k s = s2 := hs2'.trans hs
    have M1 : Hid (PhM w0.heap.size w2 B s2) := Lib.hid (by rw [← hw2, ← hs]; exact h)
    have B1 : Hid (Below w0.heap.size w w2) := Lib.hid (by rw [← hw2]; exact Below.refl _ _)
    rw [hs] at hB1
    clear h hB hk hs2' hs
    go_enter Try.func12, Try.ntmps12
    go_step3
    go_wp2_with fail
    try rw [hw2]
    clear hw2
    have HS := Lib.hid (conspoken_any ws _ w2 (HV.out w2 B1.out) (by omega))
    go_wp2_with fail
    refine HS.out.mono ?_
    rintro e w3 ⟨rfl, rfl⟩
    clear HS
    cases hsp : spoken ws with
    | true =>
      have HEL : Hid (elemP k ws s = ((ws.foldl (stepW k) (s2, 0)).1)) := Lib.hid (by unfold elemP wordsP barP; rw [if_pos hsp, hs2])
      have hB2 := hB1.mono (show _ ≤ a + 3 by omega) (show _ ≤ b + 1 by omega)
      have M2 := M1
      have B2 := B1
      clear hsp hs2 hB1 M1 B1
      have HB2 := Lib.hid hB2
      go_wp2_with fail
      go_step3
      go_wp2_with fail
      go_loopw [6, 8, 28] (fun n _ i wr => ∃ j m : Nat, j ≤ ws.length ∧ m ≤ j ∧ i = .int .i64 (j : Int) ∧ n = .int .i64 (m : Int) ∧ Hid (PhM w0.heap.size wr B ((ws.take j).foldl (stepW k) (s2, 0)).1 ∧ ((ws.take j).foldl (stepW k) (s2, 0)).2 = m) ∧ Hid (Below w0.heap.size w wr)) (fun _ _ i _ => ws.length - (intOf i).toNat)
      case atStart => exact ⟨0, 0, by omega, by omega, rfl, rfl, Lib.hid ⟨M2.out, rfl⟩, B2⟩
      case round =>
        obtain ⟨j, m, hj, hm, rfl, rfl, HM, HBW⟩ := hrel
        by_cases hlt : j < ws.length
        · obtain ⟨x, hx⟩ : ∃ x, ws[j]? = some x := ⟨ws[j], List.getElem?_eq_getElem hlt⟩
          have hxl := HW.out x (List.mem_of_getElem? hx)
          obtain ⟨g, off, rfl, c0⟩ := Ss.at (HV.out wr HBW.out) hx
          have hnx := foldl_take (stepW k) (s2, 0) hx
          have hpb := PB.words (k := k) (ws.take j) (s2, 0) _ _ HB2.out (fun y hy => HW.out y (List.mem_of_mem_take hy))
          rw [List.length_take, Nat.min_eq_left hj] at hpb
          obtain ⟨st, hst⟩ : ∃ st, (ws.take j).foldl (stepW k) (s2, 0) = st := ⟨_, rfl⟩
          rw [hst] at HM hnx hpb
          obtain ⟨sp, sm⟩ := st
          obtain rfl : sm = m := HM.out.2
          have hp1 := hpb.p
          have hp2 := hpb.d
          simp only at hp1 hp2
          have HS := Lib.hid (sign_any (s := sp) HM.out.1 x (by omega) (by omega))
          have HWd : Hid (∀ w2, PhM w0.heap.size w2 B sp → Calls Try.prog 18 #[.pointer (some ⟨B, 0, none⟩), .string ⟨k.toArray⟩, .int .i64 (sm : Int), .string ⟨x.toArray⟩] w2 (PhRet w0.heap.size w2 B (.tuple #[]) (wordP k sm x sp))) := Lib.hid (fun w2 h2 => word_any h2 k x sm (by omega) (by omega) (by omega))
          have hlt' : (j : Int) < (ws.length : Int) := by omega
          have hj0 : (0 : Int) ≤ (j : Int) := by omega
          have hsm : (sm : Int) ≤ 1000 := by omega
          by_cases hs : signW x = true
          · have e : stepW k (sp, sm) x = (sp.sign x, sm) := by unfold stepW; rw [if_pos hs]
            rw [e] at hnx
            rw [hs] at HS
            have HN := Lib.hid hnx
            clear hx hnx hst hpb hp1 hp2 HM hxl hs e HWd
            go_wp2_with fail
            refine HS.out.mono ?_
            rintro e w2 ⟨rfl, m1, b1⟩
            have M3 : Hid (PhM w0.heap.size w2 B ((ws.take (j + 1)).foldl (stepW k) (s2, 0)).1 ∧ ((ws.take (j + 1)).foldl (stepW k) (s2, 0)).2 = sm) := Lib.hid (by rw [HN.out]; exact ⟨m1, rfl⟩)
            have B3 := Lib.hid (HBW.out.trans b1)
            clear m1 b1 HN HS
            go_wp2_with fail
            go_roundw
            case rel => exact ⟨j + 1, sm, by omega, by omega, by go_num, by first | rfl | trivial, M3, B3⟩
            case measure => (simp [intOf]; try omega)
          · have e : stepW k (sp, sm) x = (wordP k sm x sp, sm + 1) := by unfold stepW; rw [if_neg hs]
            have e2 : sp.sign x = sp := by unfold Ph.sign; rw [if_neg hs]
            rw [e] at hnx
            rw [e2, show signW x = false by simpa using hs] at HS
            have HN := Lib.hid hnx
            clear hx hnx hst hpb hp1 hp2 HM hxl hs e e2
            go_wp2_with fail
            refine HS.out.mono ?_
            rintro e w2 ⟨rfl, m1, b1⟩
            have HWE := Lib.hid (HWd.out w2 m1)
            have B3 := Lib.hid (HBW.out.trans b1)
            clear m1 b1 HS HWd
            go_wp2_with fail
            refine HWE.out.mono ?_
            rintro e w3 ⟨rfl, m1, b1⟩
            have M4 : Hid (PhM w0.heap.size w3 B ((ws.take (j + 1)).foldl (stepW k) (s2, 0)).1 ∧ ((ws.take (j + 1)).foldl (stepW k) (s2, 0)).2 = sm + 1) := Lib.hid (by rw [HN.out]; exact ⟨m1, rfl⟩)
            have B4 := Lib.hid (B3.out.trans b1)
            clear m1 b1 HN HWE
            go_wp2_with fail
            go_roundw
            case rel => exact ⟨j + 1, sm + 1, by omega, by omega, by go_num, by go_num, M4, B4⟩
            case measure => (simp [intOf]; try omega)
        · obtain rfl : j = ws.length := by omega
          have hlt' : ¬ (ws.length : Int) < (ws.length : Int) := by omega
          have MF : Hid (PhM w0.heap.size wr B (elemP k ws s)) := Lib.hid (by
            have := HM.out.1
            rw [List.take_length] at this
            rw [HEL.out]
            exact this)
          clear HM
          go_wp2_with fail
          go_end0
          exact ⟨rfl, MF.out, HBW.out⟩
    | false =>
      have HBR := Lib.hid (bare_any M1.out k hB1 (by omega) (by omega))
      have hB2 := (hB1.bare k).mono (show _ ≤ a + 3 by omega) (show _ ≤ b + 1 by omega)
      obtain ⟨s3, hs3⟩ : ∃ s3, bareP k s2 = s3 := ⟨_, rfl⟩
      have HEL : Hid (elemP k ws s = ((ws.foldl (stepW k) (s3, 0)).1)) := Lib.hid (by unfold elemP wordsP barP; rw [if_neg (by rw [hsp]; simp), hs2, hs3])
      rw [hs3] at HBR hB2
      clear hsp hs2 hB1 M1 hs3
      go_wp2_with fail
      refine HBR.out.mono ?_
      rintro e w4 ⟨rfl, m1, b1⟩
      have M2 := Lib.hid m1
      have B2 := Lib.hid (B1.out.trans b1)
      clear m1 b1 HBR B1
      have HB2 := Lib.hid hB2
      go_wp2_with fail
      go_step3
      go_wp2_with fail
      go_loopw [6, 8, 28] (fun n _ i wr => ∃ j m : Nat, j ≤ ws.length ∧ m ≤ j ∧ i = .int .i64 (j : Int) ∧ n = .int .i64 (m : Int) ∧ Hid (PhM w0.heap.size wr B ((ws.take j).foldl (stepW k) (s3, 0)).1 ∧ ((ws.take j).foldl (stepW k) (s3, 0)).2 = m) ∧ Hid (Below w0.heap.size w wr)) (fun _ _ i _ => ws.length - (intOf i).toNat)
      case atStart => exact ⟨0, 0, by omega, by omega, rfl, rfl, Lib.hid ⟨M2.out, rfl⟩, B2⟩
      case round =>
        obtain ⟨j, m, hj, hm, rfl, rfl, HM, HBW⟩ := hrel
        by_cases hlt : j < ws.length
        · obtain ⟨x, hx⟩ : ∃ x, ws[j]? = some x := ⟨ws[j], List.getElem?_eq_getElem hlt⟩
          have hxl := HW.out x (List.mem_of_getElem? hx)
          obtain ⟨g, off, rfl, c0⟩ := Ss.at (HV.out wr HBW.out) hx
          have hnx := foldl_take (stepW k) (s3, 0) hx
          have hpb := PB.words (k := k) (ws.take j) (s3, 0) _ _ HB2.out (fun y hy => HW.out y (List.mem_of_mem_take hy))
          rw [List.length_take, Nat.min_eq_left hj] at hpb
          obtain ⟨st, hst⟩ : ∃ st, (ws.take j).foldl (stepW k) (s3, 0) = st := ⟨_, rfl⟩
          rw [hst] at HM hnx hpb
          obtain ⟨sp, sm⟩ := st
          obtain rfl : sm = m := HM.out.2
          have hp1 := hpb.p
          have hp2 := hpb.d
          simp only at hp1 hp2
          have HS := Lib.hid (sign_any (s := sp) HM.out.1 x (by omega) (by omega))
          have HWd : Hid (∀ w2, PhM w0.heap.size w2 B sp → Calls Try.prog 18 #[.pointer (some ⟨B, 0, none⟩), .string ⟨k.toArray⟩, .int .i64 (sm : Int), .string ⟨x.toArray⟩] w2 (PhRet w0.heap.size w2 B (.tuple #[]) (wordP k sm x sp))) := Lib.hid (fun w2 h2 => word_any h2 k x sm (by omega) (by omega) (by omega))
          have hlt' : (j : Int) < (ws.length : Int) := by omega
          have hj0 : (0 : Int) ≤ (j : Int) := by omega
          have hsm : (sm : Int) ≤ 1000 := by omega
          by_cases hs : signW x = true
          · have e : stepW k (sp, sm) x = (sp.sign x, sm) := by unfold stepW; rw [if_pos hs]
            rw [e] at hnx
            rw [hs] at HS
            have HN := Lib.hid hnx
            clear hx hnx hst hpb hp1 hp2 HM hxl hs e HWd
            go_wp2_with fail
            refine HS.out.mono ?_
            rintro e w2 ⟨rfl, m1, b1⟩
            have M3 : Hid (PhM w0.heap.size w2 B ((ws.take (j + 1)).foldl (stepW k) (s3, 0)).1 ∧ ((ws.take (j + 1)).foldl (stepW k) (s3, 0)).2 = sm) := Lib.hid (by rw [HN.out]; exact ⟨m1, rfl⟩)
            have B3 := Lib.hid (HBW.out.trans b1)
            clear m1 b1 HN HS
            go_wp2_with fail
            go_roundw
            case rel => exact ⟨j + 1, sm, by omega, by omega, by go_num, by first | rfl | trivial, M3, B3⟩
            case measure => (simp [intOf]; try omega)
          · have e : stepW k (sp, sm) x = (wordP k sm x sp, sm + 1) := by unfold stepW; rw [if_neg hs]
            have e2 : sp.sign x = sp := by unfold Ph.sign; rw [if_neg hs]
            rw [e] at hnx
            rw [e2, show signW x = false by simpa using hs] at HS
            have HN := Lib.hid hnx
            clear hx hnx hst hpb hp1 hp2 HM hxl hs e e2
            go_wp2_with fail
            refine HS.out.mono ?_
            rintro e w2 ⟨rfl, m1, b1⟩
            have HWE := Lib.hid (HWd.out w2 m1)
            have B3 := Lib.hid (HBW.out.trans b1)
            clear m1 b1 HS HWd
            go_wp2_with fail
            refine HWE.out.mono ?_
            rintro e w3 ⟨rfl, m1, b1⟩
            have M4 : Hid (PhM w0.heap.size w3 B ((ws.take (j + 1)).foldl (stepW k) (s3, 0)).1 ∧ ((ws.take (j + 1)).foldl (stepW k) (s3, 0)).2 = sm + 1) := Lib.hid (by rw [HN.out]; exact ⟨m1, rfl⟩)
            have B4 := Lib.hid (B3.out.trans b1)
            clear m1 b1 HN HWE
            go_wp2_with fail
            go_roundw
            case rel => exact ⟨j + 1, sm + 1, by omega, by omega, by go_num, by go_num, M4, B4⟩
            case measure => (simp [intOf]; try omega)
        · obtain rfl : j = ws.length := by omega
          have hlt' : ¬ (ws.length : Int) < (ws.length : Int) := by omega
          have MF : Hid (PhM w0.heap.size wr B (elemP k ws s)) := Lib.hid (by
            have := HM.out.1
            rw [List.take_length] at this
            rw [HEL.out]
            exact this)
          clear HM
          go_wp2_with fail
          go_end0
          exact ⟨rfl, MF.out, HBW.out⟩
end
end Go.Proofs.Ytpcbbhfbldchlaa
namespace Go.Proofs.Ytpcbbhfbldchlaa
open Go.RowKit
theorem shut_next : ∀ (n : Nat) (s : Ph), shutP (n + 1) s = (shutP n s).sign [93]
  | 0, s => rfl
  | n + 1, s => shut_next n (s.sign [93])
theorem run_next {name : Txt} {l : List Txt} {j : Nat} {x : Txt} (h : l[j]? = some x) : runP name (l.take (j + 1)) = stepP (runP name (l.take j)) x := foldl_take stepP (pq0 name) h
/-- 'l[from:i]', 'l[from:]' of texts, kept whole. -/
noncomputable def midW (x lo hi : Value) : Sem Value := Instr.slice 32 x (some lo) (some hi) none
theorem slice_midW (x lo hi : Value) : Instr.slice 32 x (some lo) (some hi) none = midW x lo hi := rfl
noncomputable def backW (x lo : Value) : Sem Value := Instr.slice 32 x (some lo) none none
theorem slice_backW (x lo : Value) : Instr.slice 32 x (some lo) none none = backW x lo := rfl
theorem infoW : (Try.prog.info? 9).map (fun i => (i.zero, i.size, i.bytes)) = some (some (.string ⟨#[]⟩), 1, 16) := by kernel_rfl
theorem midW_run {w : World} {v : Value} {l : List Txt} (h : Ss w v l) (q k : Nat) (hq : q ≤ k) (hk : k ≤ l.length) : ∃ u, (∀ W : World, (midW v (.int .i64 (q : Int)) (.int .i64 (k : Int))).run Try.prog W = .ok u W) ∧ Ss w u ((l.take k).drop q) := by
  obtain ⟨i0, hi, hz0, hz1, hz2⟩ := info_parts infoW
  exact Fs.mid Try.underlying32 hi hz1 h q k hq hk
theorem backW_run {w : World} {v : Value} {l : List Txt} (h : Ss w v l) (q : Nat) (hq : q ≤ l.length) : ∃ u, (∀ W : World, (backW v (.int .i64 (q : Int))).run Try.prog W = .ok u W) ∧ Ss w u (l.drop q) := by
  obtain ⟨i0, hi, hz0, hz1, hz2⟩ := info_parts infoW
  exact Fs.back Try.underlying32 hi hz1 h q hq
def PcsEnd (w : World) (q : Ph) (e : Ending) (w' : World) : Prop := ∃ pr dv P, e = .returned (.tuple #[pr, .string ⟨q.name.toArray⟩, dv]) ∧ PcOwn w.heap.size w' pr P ∧ PcsIs w.heap.size w' P q.p ∧ DOwn w.heap.size w' dv (dgsW q.d) ∧ Below w.heap.size w w'
attribute [local go_sem ↓ high] slice_midW slice_backW
set_option maxRecDepth 100000 in
set_option maxHeartbeats 4000000 in
theorem pieces_any (name : Txt) (l : List Txt) (v : Value) (w : World) (hv : Ss w v l) (hn : name.length ≤ 800) (hl : l.length ≤ 280) (hw : ∀ x ∈ l, x.length ≤ 800) :
    Calls Try.prog 9 #[.string ⟨name.toArray⟩, v] w (PcsEnd w (phr name l)) := by
  have HPB := Lib.hid (fun l' (h : ∀ x ∈ l', x ∈ l) => PB.run name hn l' (fun x hx => hw x (h x hx)))
  have HLB := PB.last name hn l hw
  have HW := Lib.hid hw
  have HV := Lib.hid hv
  obtain ⟨va, vc, rfl⟩ := hv.len
  have b1 := below_lit w (.cells #[.string ⟨name.toArray⟩, .int .i64 0, .slice none 0 0, .slice none 0 0] 41)
  have HP0 : Hid (PhM w.heap.size (w.alloc (.cells #[.string ⟨name.toArray⟩, .int .i64 0, .slice none 0 0, .slice none 0 0] 41)) w.heap.size (ph0 name)) := Lib.hid ⟨_, _, [], ⟨Nat.le_refl _, heap_alloc_new w _, FOwn.nil _ _, PcsIs.nil _ _, FOwn.nil _ _⟩⟩
  have HB0 := Lib.hid b1
  obtain ⟨B, hB⟩ : ∃ B, w.heap.size = B := ⟨_, rfl⟩
  obtain ⟨W1, hW1⟩ : ∃ W, w.alloc (.cells #[.string ⟨name.toArray⟩, .int .i64 0, .slice none 0 0, .slice none 0 0] 41) = W := ⟨_, rfl⟩
  rw [hW1] at HP0 HB0
  have HP1 : Hid (PhM w.heap.size W1 B (ph0 name)) := Lib.hid (by have := HP0.out; rw [hB] at this ⊢; exact this)
  clear hv b1 hw HP0
  go_enter Try.func9, Try.ntmps9
  go_wp2_with fail
  try rw [hW1]
  try rw [hB]
  go_loopw [8, 9, 10, 11, 17] (fun kv fv _ _ i wr => ∃ (j fr : Nat) (k : Txt) (sp : Ph), j ≤ l.length ∧ fr ≤ j ∧ i = .int .i64 (j : Int) ∧ kv = .string ⟨k.toArray⟩ ∧ fv = .int .i64 (fr : Int) ∧ Hid (runP name (l.take j) = ⟨sp, k, (l.take j).drop fr⟩) ∧ Hid (PhM w.heap.size wr B sp) ∧ Hid (Below w.heap.size w wr)) (fun _ _ _ _ i _ => l.length - (intOf i).toNat)
  case atStart => exact ⟨0, 0, cNo, ph0 name, by omega, by omega, rfl, rfl, rfl, Lib.hid rfl, HP1, HB0⟩
  case round =>
    obtain ⟨j, fr, k, sp, hj, hfr, rfl, rfl, rfl, HR, HM, HBW⟩ := hrel
    have hj0 : (0 : Int) ≤ (j : Int) := by omega
    have hf0 : (0 : Int) ≤ (fr : Int) := by omega
    have hfj : (fr : Int) ≤ (j : Int) := by omega
    by_cases hlt : j < l.length
    · obtain ⟨x, hx⟩ : ∃ x, l[j]? = some x := ⟨l[j], List.getElem?_eq_getElem hlt⟩
      obtain ⟨g, off, rfl, c0⟩ := Ss.at (HV.out.below HBW.out) hx
      obtain ⟨u, hu, hus⟩ := midW_run HV.out fr j hfr (by omega)
      have hnx := run_next (name := name) hx
      rw [HR.out] at hnx
      obtain ⟨a, b, q1, q2, q3, q4⟩ := HPB.out (l.take j) (fun y hy => List.mem_of_mem_take hy)
      rw [HR.out] at q1 q2 q3 q4
      simp only [List.length_take, Nat.min_eq_left hj] at q1 q2 q3 q4
      have HC := Lib.hid (dcall_any x wr)
      have hlt' : (j : Int) < (l.length : Int) := by omega
      have HE : Hid (Calls Try.prog 12 #[.pointer (some ⟨B, 0, none⟩), .string ⟨k.toArray⟩, u] wr (PhRet w.heap.size wr B (.tuple #[]) (elemP k ((l.take j).drop fr) sp))) := Lib.hid (element_any (w0 := w) HBW.out hus HM.out k q4 q1 (by omega) (by omega))
      obtain ⟨ua, uc, rfl⟩ := hus.len
      obtain ⟨un, hun⟩ : ∃ n, ((l.take j).drop fr).length = n := ⟨_, rfl⟩
      rw [hun] at hu HE
      by_cases hc : callW x = true
      · have e : stepP ⟨sp, k, (l.take j).drop fr⟩ x = ⟨elemP k ((l.take j).drop fr) sp, x, []⟩ := by unfold stepP; rw [if_pos hc]
        rw [e] at hnx
        rw [hc] at HC
        have HN : Hid (runP name (l.take (j + 1)) = ⟨elemP k ((l.take j).drop fr) sp, x, (l.take (j + 1)).drop (j + 1)⟩) := Lib.hid (by
          have ed : (l.take (j + 1)).drop (j + 1) = [] := List.drop_eq_nil_of_le (by rw [List.length_take]; omega)
          rw [hnx, ed])
        obtain ⟨sq, hsq⟩ : ∃ s, elemP k ((l.take j).drop fr) sp = s := ⟨_, rfl⟩
        rw [hsq] at HE HN
        clear hx hnx q1 q2 q3 q4 hus hc e HM HR hsq hun
        go_wp2_with fail
        refine HC.out.mono ?_
        rintro e w2 ⟨rfl, rfl⟩
        clear HC
        go_wp2_with fail
        refine HE.out.mono ?_
        rintro e w3 ⟨rfl, m1, b1⟩
        have M3 := Lib.hid m1
        have B3 := Lib.hid (HBW.out.trans b1)
        clear m1 b1 HE
        go_wp2_with fail
        go_roundw
        case rel => exact ⟨j + 1, j + 1, x, sq, by omega, by omega, by go_num, by first | rfl | trivial, by go_num, HN, M3, B3⟩
        case measure => (simp [intOf]; try omega)
      · have e : stepP ⟨sp, k, (l.take j).drop fr⟩ x = ⟨sp, k, (l.take j).drop fr ++ [x]⟩ := by unfold stepP; rw [if_neg hc]
        rw [e] at hnx
        rw [show callW x = false by simpa using hc] at HC
        have HN : Hid (runP name (l.take (j + 1)) = ⟨sp, k, (l.take (j + 1)).drop fr⟩) := Lib.hid (by
          rw [hnx, List.take_add_one, hx]
          simp only [Option.toList_some]
          rw [List.drop_append_of_le_length (by rw [List.length_take]; omega)])
        clear hx hnx q1 q2 q3 q4 hus hc e HR HE hu hun
        go_wp2_with fail
        refine HC.out.mono ?_
        rintro e w2 ⟨rfl, rfl⟩
        clear HC
        go_wp2_with fail
        go_roundw
        case rel => exact ⟨j + 1, fr, k, sp, by omega, by omega, by go_num, by first | rfl | trivial, by first | rfl | trivial, HN, HM, HBW⟩
        case measure => (simp [intOf]; try omega)
    · obtain rfl : j = l.length := by omega
      have hlt' : ¬ (l.length : Int) < (l.length : Int) := by omega
      obtain ⟨u, hu, hus⟩ := backW_run HV.out fr hfr
      have hr := HR.out
      rw [List.take_length] at hr
      obtain ⟨a, b, q1, q2, q3, q4⟩ := HPB.out l (fun y hy => hy)
      rw [hr] at q1 q2 q3 q4
      simp only at q1 q2 q3 q4
      have hlast : lastP name l = elemP k (l.drop fr) sp := by unfold lastP; rw [hr]
      have HE : Hid (Calls Try.prog 12 #[.pointer (some ⟨B, 0, none⟩), .string ⟨k.toArray⟩, u] wr (PhRet w.heap.size wr B (.tuple #[]) (lastP name l))) := Lib.hid (by rw [hlast]; exact element_any (w0 := w) HBW.out hus HM.out k q4 q1 (by omega) (by omega))
      obtain ⟨ua, uc, rfl⟩ := hus.len
      obtain ⟨un, hun⟩ : ∃ n, (l.drop fr).length = n := ⟨_, rfl⟩
      rw [hun] at hu HE
      have HPH : Hid (phr name l = shutP (lastP name l).op (lastP name l)) := Lib.hid rfl
      obtain ⟨sq, hsq⟩ : ∃ s, lastP name l = s := ⟨_, rfl⟩
      rw [hsq] at HE HPH HLB
      clear hr q1 q2 q3 q4 hus HM HR hsq hlast hun
      go_wp2_with fail
      refine HE.out.mono ?_
      rintro e w3 ⟨rfl, m1, b1⟩
      obtain ⟨pr0, dv0, P0, hv0⟩ := m1
      have c1 : w3.cell? ⟨B, 1, none⟩ = some (.int .i64 (sq.op : Int)) := hv0.box.cell 1
      have M3 : Hid (PhM w.heap.size w3 B sq) := Lib.hid ⟨_, _, _, hv0⟩
      have B3 := Lib.hid (HBW.out.trans b1)
      have hop := HLB.o
      have hpl := HLB.p
      have HSH := Lib.hid HLB
      obtain ⟨N, hN⟩ : ∃ N, sq.op = N := ⟨_, rfl⟩
      rw [hN] at c1 hop HPH
      have hN5 : (N : Int) ≤ 5000 := by omega
      clear hv0 b1 HE HLB hN
      go_wp2_with fail
      go_loopw [45] (fun i wr => ∃ j : Nat, j ≤ N ∧ i = .int .i64 (j : Int) ∧ Hid (PhM w.heap.size wr B (shutP j sq)) ∧ Hid (Below w.heap.size w wr)) (fun i _ => N - (intOf i).toNat)
      case atStart => exact ⟨0, by omega, rfl, M3, B3⟩
      case round =>
        obtain ⟨j, hj2, rfl, HM, HBW2⟩ := hrel
        by_cases hlt2 : j < N
        · have hlt3 : (j : Int) < (N : Int) := by omega
          have hpb := PB.shut j _ _ _ HSH.out
          have HS := Lib.hid (sign_any HM.out [93] (by decide) (by have := hpb.p; omega))
          rw [← shut_next] at HS
          clear hpb
          go_wp2_with fail
          refine HS.out.mono ?_
          rintro e w4 ⟨rfl, m1, b1⟩
          have M4 := Lib.hid m1
          have B4 := Lib.hid (HBW2.out.trans b1)
          clear m1 b1 HS
          go_wp2_with fail
          go_roundw
          case rel => exact ⟨j + 1, by omega, by go_num, M4, B4⟩
          case measure => (simp [intOf]; try omega)
        · obtain rfl : j = N := by omega
          have hlt3 : ¬ (j : Int) < (j : Int) := by omega
          obtain ⟨pr, dv, P, hvf⟩ := HM.out
          rw [← HPH.out] at hvf
          have k0 : wr.cell? ⟨B, 0, none⟩ = some (.string ⟨(phr name l).name.toArray⟩) := hvf.box.cell 0
          have k2 : wr.cell? ⟨B, 2, none⟩ = some pr := hvf.box.cell 2
          have k3 : wr.cell? ⟨B, 3, none⟩ = some dv := hvf.box.cell 3
          have HF : Hid (∀ wf, Below wr.heap.size wr wf → PcsEnd w (phr name l) (.returned (.tuple #[pr, .string ⟨(phr name l).name.toArray⟩, dv])) wf) := Lib.hid (fun wf hb => ⟨pr, dv, P, rfl, hvf.pc.keep hb, hvf.is.keep hb, hvf.dg.keep hb, HBW2.out.trans (hb.mono HBW2.out.size)⟩)
          obtain ⟨⟨pa, pc, rfl⟩, ⟨da, dc, rfl⟩⟩ := hvf.len
          obtain ⟨n1, hn1⟩ : ∃ n, (phr name l).p.length = n := ⟨_, rfl⟩
          obtain ⟨n2, hn2⟩ : ∃ n, (phr name l).d.length = n := ⟨_, rfl⟩
          obtain ⟨nm, hnm⟩ : ∃ n, (phr name l).name = n := ⟨_, rfl⟩
          rw [hn1, hn2, hnm] at HF
          rw [hn1] at k2
          rw [hn2] at k3
          rw [hnm] at k0
          clear hvf hn1 hn2 hnm HM HPH HSH
          go_wp2_with fail
          go_region
          all_goals
            go_wp2_with fail
            exact bodyPost_ret (v := .tuple #[.slice pa n1 pc, .string ⟨nm.toArray⟩, .slice da n2 dc]) (by simp [results, Try.results9, go_sem]) rfl (HF.out _ (Below.refl _ _).drew)
end Go.Proofs.Ytpcbbhfbldchlaa
namespace Go.Proofs.Ytpcbbhfbldchlaa
open Go.RowKit
/-- Pieces that are read. -/
def PcsR (w : World) (v : Value) (l : List Pc) : Prop := ∃ P : List PcV, P.length = l.length ∧ Fs 3 pccell w v P ∧ ∀ (i : Nat) x p, P[i]? = some x → l[i]? = some p → Gs w (pv x.1) p.g ∧ x.2.1 = p.l ∧ x.2.2 = p.r
theorem PcsR.below {w w' : World} {v : Value} {l : List Pc} (h : PcsR w v l) (hb : Below w.heap.size w w') : PcsR w' v l := by
  obtain ⟨P, h1, h2, h3⟩ := h
  exact ⟨P, h1, h2.below hb, fun i x p a c => ⟨Fs.below (h3 i x p a c).1 hb, (h3 i x p a c).2⟩⟩
theorem PcsR.of {base : Nat} {w : World} {v : Value} {P : List PcV} {l : List Pc} (h1 : PcOwn base w v P) (h2 : PcsIs base w P l) : PcsR w v l :=
  ⟨P, h2.1, FOwn.sl pccell_len h1, fun i x p a c => ⟨FOwn.sl gcell_len (h2.2 i x p a c).1, (h2.2 i x p a c).2⟩⟩
theorem PcsR.len {w : World} {v : Value} {l : List Pc} (h : PcsR w v l) : ∃ a c, v = .slice a l.length c := by
  obtain ⟨P, h1, h2, h3⟩ := h
  obtain ⟨a, c, e⟩ := h2.len
  exact ⟨a, c, by rw [← h1]; exact e⟩
theorem PcsR.at {w : World} {a : Option Addr} {n c : Nat} {l : List Pc} (h : PcsR w (.slice a n c) l) {j : Nat} {p : Pc} (hp : l[j]? = some p) :
    ∃ g off xa xc, a = some ⟨g, off, none⟩ ∧ w.cell? ⟨g, off + j * 3, none⟩ = some (.slice xa p.g.length xc) ∧ w.cell? ⟨g, off + j * 3 + 1, none⟩ = some (.bool p.l) ∧ w.cell? ⟨g, off + j * 3 + 2, none⟩ = some (.bool p.r) ∧ Gs w (.slice xa p.g.length xc) p.g := by
  obtain ⟨P, h1, ⟨a', cap, e, hc, hr⟩, h3⟩ := h
  injection e with e1 e2 e3
  subst e1
  have hj := (List.getElem?_eq_some_iff.1 hp).1
  obtain ⟨x, hx⟩ : ∃ x, P[j]? = some x := ⟨P[j]'(by omega), List.getElem?_eq_getElem (by omega)⟩
  obtain ⟨g, off, rfl, hcell⟩ := hr j x hx
  obtain ⟨q1, q2, q3⟩ := h3 j x p hx hp
  obtain ⟨⟨xa, xn, xc⟩, xl, xr⟩ := x
  simp only at q1 q2 q3
  subst q2 q3
  obtain ⟨xa', xc', e4⟩ := q1.len
  simp only [pv] at e4
  injection e4 with e5 e6 e7
  subst e5 e6 e7
  have k0 := hcell 0 _ rfl
  have k1 := hcell 1 _ rfl
  have k2 := hcell 2 _ rfl
  simp only [Nat.add_zero] at k0
  exact ⟨g, off, xa, xc, rfl, k0, k1, k2, q1⟩
attribute [local go_sem ↓ high] builtin_appG
set_option maxRecDepth 100000 in
set_option maxHeartbeats 5000000 in
theorem djoin_any (l : List Pc) (v : Value) (w : World) (hv : PcsR w v l) (hl : pcL l ≤ 500000) :
    Calls Try.prog 6 #[v] w fun e w' => ∃ x, e = .returned x ∧ GOwn w.heap.size w' x (joinP l) ∧ Below w.heap.size w w' := by
  have HV := Lib.hid hv
  obtain ⟨va, vc, rfl⟩ := hv.len
  have hll : l.length ≤ pcL l := by
    clear hv HV hl
    induction l with
    | nil => simp [pcL]
    | cons p l ih => simp only [pcL, List.length_cons]; omega
  have HLN : Hid (∀ j, ((l.take j).foldl joinF ([], true)).1.length ≤ 500000 ∧ ∀ p, l[j]? = some p → ((l.take j).foldl joinF ([], true)).1.length + 1 + p.g.length ≤ 500000) := Lib.hid (fun j => by
    have h1 := joinP_len (l.take j)
    have h2 := take_pcL l j
    unfold joinP at h1
    refine ⟨by omega, fun p hp => ?_⟩
    have h3 := take_pcL l (j + 1)
    rw [List.take_add_one, hp] at h3
    have h4 : ∀ (a : List Pc) (q : Pc), pcL (a ++ [q]) = pcL a + 1 + q.g.length := fun a q => by
      induction a with
      | nil => simp [pcL]
      | cons y a ih => simp only [List.cons_append, pcL, ih]; omega
    simp only [Option.toList_some] at h3
    rw [h4] at h3
    omega)
  clear hv
  go_enter Try.func6, Try.ntmps6
  go_wp2_with fail
  go_loopw [3, 4, 9] (fun rv sv i wr => ∃ j : Nat, j ≤ l.length ∧ i = .int .i64 (j : Int) ∧ sv = .bool ((l.take j).foldl joinF ([], true)).2 ∧ Hid (GOwn w.heap.size wr rv ((l.take j).foldl joinF ([], true)).1) ∧ Hid (Below w.heap.size w wr)) (fun _ _ i _ => l.length - (intOf i).toNat)
  case atStart => exact ⟨0, by omega, rfl, rfl, Lib.hid (FOwn.nil _ _), Lib.hid (Below.refl _ _)⟩
  case round =>
    obtain ⟨j, hj, rfl, rfl, HG, HBW⟩ := hrel
    have hj0 : (0 : Int) ≤ (j : Int) := by omega
    by_cases hlt : j < l.length
    · obtain ⟨p, hp⟩ : ∃ p, l[j]? = some p := ⟨l[j], List.getElem?_eq_getElem hlt⟩
      have hlt' : (j : Int) < (l.length : Int) := by omega
      obtain ⟨g, off, xa, xc, rfl, m0, m1, m2, hg0⟩ := PcsR.at HV.out hp
      have k0 := (HBW.out.cell (World.block_lt_of_cell? w _ m0)).trans m0
      have k1 := (HBW.out.cell (World.block_lt_of_cell? w _ m1)).trans m1
      have k2 := (HBW.out.cell (World.block_lt_of_cell? w _ m2)).trans m2
      have hg := Fs.below hg0 HBW.out
      have hnx := foldl_take joinF ([], true) hp
      have hln := (HLN.out j).2 p hp
      have bs := HBW.out.size
      have ba := below_lit wr (.cells #[.slice xa p.g.length xc, .bool p.l, .bool p.r] 25)
      have kx : Blk (wr.alloc (.cells #[.slice xa p.g.length xc, .bool p.l, .bool p.r] 25)) wr.heap.size 25 [.slice xa p.g.length xc, .bool p.l, .bool p.r] := heap_alloc_new wr _
      obtain ⟨q, hq⟩ : ∃ q, (l.take j).foldl joinF ([], true) = q := ⟨_, rfl⟩
      rw [hq] at HG hnx hln ⊢
      by_cases hz : p.g = []
      · have e : joinF q p = q := by unfold joinF; rw [if_pos hz]
        rw [e] at hnx
        have hz0 : p.g.length = 0 := by rw [hz]; rfl
        rw [hz0] at k0
        have HN := Lib.hid hnx
        obtain ⟨pl, hpl⟩ : ∃ b, p.l = b := ⟨_, rfl⟩
        obtain ⟨pr, hpr⟩ : ∃ b, p.r = b := ⟨_, rfl⟩
        rw [hpl] at k1
        rw [hpr] at k2
        have HG2 : Hid (∀ o : Obj, GOwn w.heap.size (wr.alloc o) u3 ((l.take (j + 1)).foldl joinF ([], true)).1 ∧ Below w.heap.size w (wr.alloc o)) := Lib.hid (fun o => ⟨by rw [HN.out]; exact HG.out.keep (below_lit wr o), HBW.out.trans ((below_lit wr o).mono bs)⟩)
        clear m0 m1 m2 hg0 hp hnx hln hg kx ba hq hz hz0 e hpl hpr bs
        go_wp2_with fail
        go_roundw
        case rel => exact ⟨j + 1, by omega, by go_num, by rw [HN.out], Lib.hid (HG2.out _).1, Lib.hid (HG2.out _).2⟩
        case measure => (simp [intOf]; try omega)
      · have e : joinF q p = (q.1 ++ jgap q.2 p ++ p.g, p.r) := by unfold joinF; rw [if_neg hz]
        rw [e] at hnx
        have hzn : ¬ (p.g.length : Int) = 0 := fun e => hz (List.eq_nil_of_length_eq_zero (by omega))
        have hG1 := HG.out.keep ba
        have bW := HBW.out.trans (ba.mono bs)
        have hgW := Fs.below hg ba
        obtain ⟨W1, hW1⟩ : ∃ W, wr.alloc (.cells #[.slice xa p.g.length xc, .bool p.l, .bool p.r] 25) = W := ⟨_, rfl⟩
        rw [hW1] at hG1 bW hgW kx
        have x0 := kx.cell 0
        have x1 := kx.cell 1
        have x2 := kx.cell 2
        obtain ⟨pl, hpl⟩ : ∃ b, p.l = b := ⟨_, rfl⟩
        obtain ⟨pr, hpr⟩ : ∃ b, p.r = b := ⟨_, rfl⟩
        obtain ⟨st, hst⟩ : ∃ b, q.2 = b := ⟨_, rfl⟩
        have hsw : wr.heap.size < W1.heap.size := kx.lt
        have bW1 := bW.size
        have hneq : ∀ (W : World) (rv : Value) (L : List Gly), GOwn w.heap.size W rv L → (∀ k, rv.ownBlock = some k → k ≠ wr.heap.size) → ∀ k, rv.ownBlock = some k → ¬ k = wr.heap.size := fun W rv L _ h => h
        have hne0 : ∀ k, u3.ownBlock = some k → k ≠ wr.heap.size := fun k e => by have := HG.out.ltb e; omega
        by_cases hgap : st = false ∧ pl = false
        · have ej : jgap q.2 p = [(32, 0)] := by unfold jgap; rw [if_pos (by rw [hst, hpl]; exact hgap)]
          obtain ⟨rfl, rfl⟩ := hgap
          have bl := below_lit W1 (.cells #[.int .i32 32, .int .u8 0] 27)
          have hsl : (W1.alloc (.cells #[.int .i32 32, .int .u8 0] 27)).heap.size = W1.heap.size + 1 := World.size_alloc ..
          obtain ⟨y1, w2, r1, o1, g1, w1⟩ := appG_own (hG1.keep bl) (fs_lit gcell_len W1 27 [(32, 0)]) (by omega) (by simp; omega)
          have b2 := (hG1.keep bl).below (bW.trans (bl.mono bW1)) (by omega) g1
          have hE2 : Exc (fun k => u3.ownBlock = some k) W1 w2 := (Exc.of bl).trans ⟨g1.os, g1.tape, g1.output, g1.size, fun k hk hx => g1.block k hk (fun e => hx e.symm)⟩ (fun _ _ q => q)
          have kx2 := hE2.blk kx (fun e => hne0 _ e rfl)
          have hne1 : ∀ k, y1.ownBlock = some k → k ≠ wr.heap.size := fun k e => by
            rcases w1 with z | z
            · exact hne0 k (by rw [← z]; exact e)
            · rw [z] at e
              have := Option.some.inj e
              omega
          obtain ⟨y2, w3, r2, o2, g2, -⟩ := appG_own o1 (Fs.below hg0 b2) b2.size (by simp; omega)
          have b3 := o1.below b2 b2.size g2
          have hE3 : Exc (fun k => y1.ownBlock = some k) w2 w3 := ⟨g2.os, g2.tape, g2.output, g2.size, fun k hk hx => g2.block k hk (fun e => hx e.symm)⟩
          have kx3 := hE3.blk kx2 (fun e => hne1 _ e rfl)
          have y0 := kx2.cell 0
          have z2 := kx3.cell 2
          rw [hpr] at z2
          have HN : Hid ((l.take (j + 1)).foldl joinF ([], true) = (q.1 ++ [(32, 0)] ++ p.g, pr)) := Lib.hid (by rw [hnx, ej, hpr])
          have HO : Hid (GOwn w.heap.size w3 y2 ((l.take (j + 1)).foldl joinF ([], true)).1) := Lib.hid (by rw [HN.out]; exact o2)
          have HB3 := Lib.hid b3
          obtain ⟨ra, rc, rfl⟩ := (FOwn.sl gcell_len HG.out).len
          obtain ⟨ya, yc, rfl⟩ := (FOwn.sl gcell_len o1).len
          obtain ⟨za, zc, rfl⟩ := (FOwn.sl gcell_len o2).len
          obtain ⟨n0, hn0⟩ : ∃ n, q.1.length = n := ⟨_, rfl⟩
          obtain ⟨n1, hn1⟩ : ∃ n, (q.1 ++ [(32, 0)]).length = n := ⟨_, rfl⟩
          obtain ⟨n2, hn2⟩ : ∃ n, (q.1 ++ [(32, 0)] ++ p.g).length = n := ⟨_, rfl⟩
          obtain ⟨n3, hn3⟩ : ∃ n, p.g.length = n := ⟨_, rfl⟩
          rw [hn2] at HO r2
          rw [hn1] at r2 r1
          rw [hn0] at r1
          rw [hn3] at r2 hzn
          have r1' : (appG #[.slice ra n0 rc, .slice (some ⟨W1.heap.size, 0, none⟩) 1 1]).run Try.prog (W1.alloc (.cells #[.int .i32 32, .int .u8 0] 27)) = .ok (.value (.slice ya n1 yc)) w2 := r1
          clear r1
          simp only [hpl, hpr, hn3] at k0 k1 k2 hW1 y0 x0 x1 x2
          try rw [hn0]
          try rw [hst]
          clear hG1 bW hgW kx kx2 kx3 hE2 hE3 hne0 hne1 o1 g1 w1 b2 o2 g2 b3 bl hsl m0 m1 m2 hg0 hg hp hnx hln hz e ej hneq hq ba HG hst hpl hpr hn0 hn1 hn2 hn3 bs bW1 hsw
          go_wp2_with fail
          go_roundw
          case rel => exact ⟨j + 1, by omega, by go_num, by rw [HN.out], HO, HB3⟩
          case measure => (simp [intOf]; try omega)
        · have ej : jgap q.2 p = [] := by unfold jgap; rw [if_neg (by rw [hst, hpl]; exact hgap)]
          obtain ⟨y2, w3, r2, o2, g2, -⟩ := appG_own hG1 (Fs.below hg0 bW) bW.size (by omega)
          have b3 := hG1.below bW bW.size g2
          have hE3 : Exc (fun k => u3.ownBlock = some k) W1 w3 := ⟨g2.os, g2.tape, g2.output, g2.size, fun k hk hx => g2.block k hk (fun e => hx e.symm)⟩
          have kx3 := hE3.blk kx (fun e => hne0 _ e rfl)
          have z2 := kx3.cell 2
          rw [hpr] at z2
          have HN : Hid ((l.take (j + 1)).foldl joinF ([], true) = (q.1 ++ p.g, pr)) := Lib.hid (by rw [hnx, ej, hpr, List.append_nil])
          have HO : Hid (GOwn w.heap.size w3 y2 ((l.take (j + 1)).foldl joinF ([], true)).1) := Lib.hid (by rw [HN.out]; exact o2)
          have HB3 := Lib.hid b3
          obtain ⟨ra, rc, rfl⟩ := (FOwn.sl gcell_len HG.out).len
          obtain ⟨za, zc, rfl⟩ := (FOwn.sl gcell_len o2).len
          obtain ⟨n0, hn0⟩ : ∃ n, q.1.length = n := ⟨_, rfl⟩
          obtain ⟨n2, hn2⟩ : ∃ n, (q.1 ++ p.g).length = n := ⟨_, rfl⟩
          obtain ⟨n3, hn3⟩ : ∃ n, p.g.length = n := ⟨_, rfl⟩
          rw [hn2] at HO r2
          rw [hn0] at r2
          rw [hn3] at r2 hzn
          simp only [hpl, hpr, hn3] at k0 k1 k2 hW1 x0 x1 x2
          try rw [hn0]
          try rw [hst]
          clear hG1 bW hgW kx kx3 hE3 hne0 o2 g2 b3 m0 m1 m2 hg0 hg hp hnx hln hz e ej hneq hq ba HG hst hpl hpr hn0 hn2 hn3 bs bW1 hsw
          cases st with
          | true =>
            clear hgap
            go_wp2_with fail
            go_roundw
            case rel => exact ⟨j + 1, by omega, by go_num, by rw [HN.out], HO, HB3⟩
            case measure => (simp [intOf]; try omega)
          | false =>
            have hpt : pl = true := by cases pl <;> simp_all
            subst hpt
            clear hgap
            go_wp2_with fail
            go_roundw
            case rel => exact ⟨j + 1, by omega, by go_num, by rw [HN.out], HO, HB3⟩
            case measure => (simp [intOf]; try omega)
    · obtain rfl : j = l.length := by omega
      have hlt' : ¬ (l.length : Int) < (l.length : Int) := by omega
      rw [List.take_length] at HG
      have HJ : Hid (GOwn w.heap.size wr u3 (joinP l)) := HG
      obtain ⟨ra, rc, rfl⟩ := (FOwn.sl gcell_len HJ.out).len
      clear HG
      go_wp2_with fail
      go_ret
      exact ⟨_, rfl, HJ.out, HBW.out⟩
end Go.Proofs.Ytpcbbhfbldchlaa
namespace Go.Proofs.Ytpcbbhfbldchlaa
open Go.RowKit
def knW : List Txt := [cOp, cFl, [97], cAr, [120], [44]]
def knP : List Pc := [⟨[(91, 0)], false, true⟩, ⟨[(45, 1), (97, 1)], false, false⟩, ⟨[(120, 2)], false, false⟩, ⟨[(44, 0)], true, false⟩, ⟨[(93, 0)], true, false⟩]
theorem kn_ph : phr [] knW = ⟨[], 1, knP, []⟩ := by
  have h1 : lgS 1 [97] = ([(97, 1)], []) := lgS_low 1 [97] (by decide)
  have h2 : lgS 2 [120] = ([(120, 2)], []) := lgS_low 2 [120] (by decide)
  have e : phr [] knW = ⟨[], 1, [⟨ofG 0 [91], false, true⟩, ⟨ofG 1 [45] ++ (lgS 1 [97]).1 ++ ofG 1 [], false, false⟩, ⟨ofG 2 [] ++ (lgS 2 [120]).1 ++ ofG 2 [], false, false⟩, ⟨ofG 0 [44], true, false⟩, ⟨ofG 0 [93], true, false⟩], (lgS 1 [97]).2 ++ (lgS 2 [120]).2⟩ := rfl
  rw [e, h1, h2, ofG_one 0 (c := 91) (by decide), ofG_one 1 (c := 45) (by decide), ofG_one 0 (c := 44) (by decide), ofG_one 0 (c := 93) (by decide), ofG_nil, ofG_nil]
  rfl
def knT : Txt := [91, 45, 97, 32, 120, 44, 93]
theorem kn_text : enc (rn (joinP knP)) = knT := by
  have e : rn (joinP knP) = (lettG 0 knT).map (·.1) := rfl
  rw [e]
  exact enc_lett 0 knT (by decide)
set_option maxRecDepth 100000 in
set_option maxHeartbeats 4000000 in
theorem known11_any (w : World) : Calls Try.prog 5 #[] w fun e w' => e = .returned (.bool true) ∧ Below w.heap.size w w' := by
  have hs : Ss (w.alloc (.cells (flatV scell knW).toArray 9)) (.slice (some ⟨w.heap.size, 0, none⟩) 6 6) knW := fs_lit scell_len w 9 knW
  have b0 := below_lit w (.cells (flatV scell knW).toArray 9)
  have HP := Lib.hid (pieces_any [] knW _ _ hs (by decide) (by decide) (by decide))
  rw [kn_ph] at HP
  have hW : w.alloc (.cells (flatV scell knW).toArray 9) = w.alloc (.cells #[.string ⟨#[79, 112]⟩, .string ⟨#[70, 108]⟩, .string ⟨#[97]⟩, .string ⟨#[65, 114]⟩, .string ⟨#[120]⟩, .string ⟨#[44]⟩] 9) := rfl
  rw [hW] at HP b0
  have HB0 := Lib.hid b0
  clear hs b0 hW
  obtain ⟨W1, hW1⟩ : ∃ W, w.alloc (.cells #[.string ⟨#[79, 112]⟩, .string ⟨#[70, 108]⟩, .string ⟨#[97]⟩, .string ⟨#[65, 114]⟩, .string ⟨#[120]⟩, .string ⟨#[44]⟩] 9) = W := ⟨_, rfl⟩
  rw [hW1] at HP HB0
  have HC := Lib.hid (fun W => dcall_any cOp W)
  go_enter Try.func5, Try.ntmps5
  go_wp2_with fail
  try rw [hW1]
  refine HP.out.mono ?_
  rintro e w2 ⟨pr, dv, P, rfl, o1, o2, o3, b2⟩
  have HJ := Lib.hid (djoin_any knP pr w2 (PcsR.of o1 o2) (by decide))
  have B2 := Lib.hid (HB0.out.trans (b2.mono HB0.out.size))
  obtain ⟨da, dc, hd⟩ := (FOwn.sl edcell_len o3).len
  obtain ⟨pa, pc, hp⟩ := (FOwn.sl pccell_len o1).len
  have hd0 : dv = .slice da 0 dc := hd
  subst hd0
  obtain ⟨pn, hpn⟩ : ∃ n, P.length = n := ⟨_, rfl⟩
  rw [hpn] at hp
  subst hp
  clear o1 o2 o3 b2 HP hd hpn hW1
  go_wp2_with fail
  refine HJ.out.mono ?_
  rintro e w3 ⟨x, rfl, o4, b3⟩
  have HT := Lib.hid (gtext_any (joinP knP) x w3 (FOwn.sl gcell_len o4) (by decide) (by decide))
  rw [kn_text] at HT
  have B3 := Lib.hid (B2.out.trans (b3.mono B2.out.size))
  obtain ⟨xa, xc, rfl⟩ := (FOwn.sl gcell_len o4).len
  clear o4 b3 HJ
  go_wp2_with fail
  refine HT.out.mono ?_
  rintro e w4 ⟨rfl, b4⟩
  have B4 := Lib.hid (B3.out.trans (b4.mono B3.out.size))
  clear b4 HT
  go_wp2_with fail
  refine (HC.out _).mono ?_
  rintro e w5 ⟨rfl, rfl⟩
  go_wp2_with fail
  go_ret
  exact ⟨rfl, B4.out⟩
end Go.Proofs.Ytpcbbhfbldchlaa
