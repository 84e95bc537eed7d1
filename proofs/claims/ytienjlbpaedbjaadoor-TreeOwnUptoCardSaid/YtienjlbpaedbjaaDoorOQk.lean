/- The laws' own small functions for documents: long, known. -/
import Derived.Test.YtienjlbpaedbjaaDoorOQj
import Derived.Deep.RegionHeld3
namespace Go.Proofs.YtienjlbpaedbjaaDoor
open Go.RowKit

/-- Nodes written out. -/
theorem ns_lit {S : Nat → Prop} (w : World) (L : List NV) (l : List Nd) (hl : L.length = l.length) (hS : ∀ b, S b → b < w.heap.size) (hh : ∀ (i : Nat) x y, L[i]? = some x → l[i]? = some y → HdIs S w x y.hd ∧ NsS S w (pv x.kids) y.kids) :
    NsS (fun b => S b ∨ b = w.heap.size) (w.alloc (.cells (flatV ncell L).toArray 39)) (.slice (some ⟨w.heap.size, 0, none⟩) L.length L.length) l := by
  have hk : Kp S w (w.alloc (.cells (flatV ncell L).toArray 39)) := Kp.below (below_lit w _) hS
  refine .mk _ _ L hl ⟨fs_lit ncell_len w _ L, fun a k c e _ => ?_⟩ (fun i x y a b => ((hh i x y a b).1.keep hk).mono (fun b q => .inl q)) (fun i x y a b => ((hh i x y a b).2.keep hk).mono (fun b q => .inl q))
  injection e with e1
  injection e1 with e1
  subst e1
  exact ⟨.inr rfl, fun _ i _ => by
    have h := heap_alloc_new w (.cells (flatV ncell L).toArray 39)
    simp only [World.frozen?, h]
    simp⟩
def longB (l : List Nd) : Bool := decide (600 < nlL l) || decide (40 < dpL l)
set_option maxRecDepth 100000 in
theorem plong_any (S : Nat → Prop) (l : List Nd) (v : Value) (w : World) (hb : nlL l ≤ 1000000000) (hv : NsS S w v l) :
    Calls Tryd.prog 9 #[v] w (RdN (.bool (longB l)) w) := by
  have hcl := cnt_nlL l
  have hdl := dp_cntL l
  have HL := Lib.hid (rlong_any S (cntL l) l rfl hb v w hv)
  have HD := Lib.hid (fun m => rdeep_any S (cntL l) l rfl (by omega) v (w.drewN m) (hv.drewN m))
  unfold longB RdN at *
  obtain ⟨n, hn⟩ : ∃ n, nlL l = n := ⟨_, rfl⟩
  obtain ⟨k, hk⟩ : ∃ n, dpL l = n := ⟨_, rfl⟩
  rw [hn] at HL hb
  rw [hk] at HD hdl
  rw [hn, hk]
  obtain ⟨va, vc, rfl⟩ := hv.len
  clear hv hn hk hcl
  by_cases h1 : 600 < n
  · have e1 : (600 : Int) < (n : Int) := by omega
    rw [show (decide (600 < n) || decide (40 < k)) = true by rw [decide_eq_true h1]; rfl]
    clear h1 HD
    go_enter Tryd.func9, Tryd.ntmps9
    go_wp2_with fail
    refine HL.out.mono ?_
    rintro e w1 ⟨rfl, m1, hw1⟩
    have HW := Lib.hid hw1
    clear hw1 HL
    go_wp2_with fail
    go_ret
    exact ⟨rfl, m1, HW.out⟩
  · have e1 : ¬ (600 : Int) < (n : Int) := by omega
    have HE6 : Hid (decide ((600 : Int) < (n : Int)) = false) := Lib.hid (decide_eq_false e1)
    have HE7 : Hid (decide (600 < n) = false) := Lib.hid (decide_eq_false h1)
    rw [show (decide (600 < n) || decide (40 < k)) = decide (40 < k) by rw [decide_eq_false h1]; rfl]
    clear h1
    have hdd : decide ((40 : Int) < (k : Int)) = decide (40 < k) := dec_all (by omega)
    obtain ⟨q, hq⟩ : ∃ q, decide (40 < k) = q := ⟨_, rfl⟩
    rw [hq] at hdd ⊢
    have HDD := Lib.hid hdd
    clear hq hdd
    go_enter Tryd.func9, Tryd.ntmps9
    go_wp2_with fail
    refine HL.out.mono ?_
    rintro e w1 ⟨rfl, m1, hw1⟩
    have HW := Lib.hid hw1
    have H2 := Lib.hid (HD.out m1)
    rw [← HW.out] at H2
    clear hw1 HL HD
    go_wp2_with fail
    refine H2.out.mono ?_
    rintro e w2 ⟨rfl, m2, hw2⟩
    have HW2 : Hid (w2 = w.drewN (m1 + m2)) := Lib.hid (by rw [hw2, HW.out, World.drewN_drewN])
    clear hw2 H2
    go_wp2_with fail
    go_ret
    exact ⟨ret_bool (by first | exact HDD.out | (rw [HE6.out, HDD.out]; rfl) | (rw [HE7.out, HDD.out]; rfl)), _, HW2.out⟩

def xG : List Gly := [(120, 0)]
def hNil (k : Int) : Hd := ⟨k, 0, 0, [], [], noGrid⟩
def hTx (k : Int) : Hd := ⟨k, 0, 0, xG, [], noGrid⟩
def kIn : List Nd := [.mk (hNil 5) [], .mk (hTx 1) [.mk (hTx 1) []]]
def kOut : List Nd := [.mk (hTx 1) [.mk (hTx 3) []]]
theorem k_tidy : tidyL kIn = kOut := by
  unfold tidyL kIn
  simp only [tdL_cons, tdL_nil, tdN_mk]
  rfl
def nvN (k : Int) : NV := ⟨k, 0, 0, nilP, nilP, nilP, [], nilP, false, false⟩
def nvT (k : Int) (t s : PV) : NV := ⟨k, 0, 0, t, s, nilP, [], nilP, false, false⟩
theorem hd_nil (S : Nat → Prop) (w : World) (k : Int) : HdIs S w (nvN k) (hNil k) := ⟨rfl, rfl, rfl, FsS.nil _ _ _ _, GrS.nil _ _, rfl, TrS.nil _ _, rfl, rfl⟩
theorem hd_tx {S : Nat → Prop} {w : World} (k : Int) {t s : PV} (h : FsS S 2 gcell w (pv t) xG) : HdIs S w (nvT k t s) (hTx k) := ⟨rfl, rfl, rfl, h, GrS.nil _ _, rfl, TrS.nil _ _, rfl, rfl⟩
theorem one_at {α β : Type} {x x' : α} {y y' : β} {i : Nat} (h : [x][i]? = some x') (k : [y][i]? = some y') : x = x' ∧ y = y' := by
  match i with
  | 0 => simp at h k; exact ⟨h, k⟩
  | i + 1 => simp at h
theorem two_at {α β : Type} {x z x' : α} {y u y' : β} {i : Nat} (h : [x, z][i]? = some x') (k : [y, u][i]? = some y') : (x = x' ∧ y = y') ∨ (z = x' ∧ u = y') := by
  match i with
  | 0 => simp at h k; exact .inl ⟨h, k⟩
  | 1 => simp at h k; exact .inr ⟨h, k⟩
  | i + 2 => simp at h
set_option maxRecDepth 100000 in
set_option maxHeartbeats 4000000 in
theorem pknown_any (w : World) (hU : U8 w) : Calls Tryd.prog 10 #[] w fun e w' => e = .returned (.bool true) ∧ Below w.heap.size w w' := by
  -- the document's memory
  obtain ⟨W1, hW1⟩ : ∃ W, W = w.alloc (.cells (flatV gcell xG).toArray 50) := ⟨_, rfl⟩
  have b1 : Below w.heap.size w W1 := by rw [hW1]; exact below_lit _ _
  have z1 : W1.heap.size = w.heap.size + 1 := by rw [hW1, World.size_alloc]
  have hX1 : FsS (fun b => b = w.heap.size) 2 gcell W1 (.slice (some ⟨w.heap.size, 0, none⟩) 1 1) xG := ⟨by rw [hW1]; exact fs_lit gcell_len w _ xG, fun a k c e _ => by
    injection e with e1
    injection e1 with e1
    subst e1
    have h := heap_alloc_new w (.cells (flatV gcell xG).toArray 50)
    exact ⟨rfl, fun _ i _ => by rw [hW1]; simp only [World.frozen?, h]; simp⟩⟩
  obtain ⟨T, hT⟩ : ∃ T : PV, T = (some ⟨w.heap.size, 0, none⟩, 1, 1) := ⟨_, rfl⟩
  have hX1' : FsS (fun b => b < W1.heap.size) 2 gcell W1 (pv T) xG := hT ▸ hX1.mono (fun b q => by omega)
  obtain ⟨W2, hW2⟩ : ∃ W, W = W1.alloc (.cells (flatV ncell [nvT 1 T nilP]).toArray 39) := ⟨_, rfl⟩
  have z2 : W2.heap.size = W1.heap.size + 1 := by rw [hW2, World.size_alloc]
  have b2 : Below W1.heap.size W1 W2 := by rw [hW2]; exact below_lit _ _
  have hN2 : NsS (fun b => b < W2.heap.size) W2 (.slice (some ⟨W1.heap.size, 0, none⟩) 1 1) [.mk (hTx 1) []] := by
    have := ns_lit W1 [nvT 1 T nilP] [.mk (hTx 1) []] rfl (fun b q => q) (fun i x y a b => by
      obtain ⟨rfl, rfl⟩ := one_at a b
      exact ⟨hd_tx 1 hX1', NsS.nil _ _⟩)
    rw [← hW2] at this
    exact this.mono (fun b q => by rcases q with q | q <;> omega)
  obtain ⟨W3, hW3⟩ : ∃ W, W = W2.alloc (.cells (flatV ncell [nvN 5, nvT 1 T (some ⟨W1.heap.size, 0, none⟩, 1, 1)]).toArray 39) := ⟨_, rfl⟩
  have z3 : W3.heap.size = W2.heap.size + 1 := by rw [hW3, World.size_alloc]
  have b3 : Below W2.heap.size W2 W3 := by rw [hW3]; exact below_lit _ _
  have hX2 : FsS (fun b => b < W2.heap.size) 2 gcell W2 (pv T) xG := (hX1'.keep (Kp.below b2 (fun b q => q))).mono (fun b q => by omega)
  have hN3 : NsS (fun b => b < W3.heap.size) W3 (.slice (some ⟨W2.heap.size, 0, none⟩) 2 2) kIn := by
    have := ns_lit W2 [nvN 5, nvT 1 T (some ⟨W1.heap.size, 0, none⟩, 1, 1)] kIn rfl (fun b q => q) (fun i x y a b => by
      rcases two_at a b with ⟨rfl, rfl⟩ | ⟨rfl, rfl⟩
      · exact ⟨hd_nil _ _ _, NsS.nil _ _⟩
      · exact ⟨hd_tx 1 hX2, hN2⟩)
    rw [← hW3] at this
    exact this.mono (fun b q => by rcases q with q | q <;> omega)
  have bw3 : Below w.heap.size w W3 := (b1.trans (b2.mono (by omega))).trans (b3.mono (by omega))
  have hX3 : FsS (fun b => b = w.heap.size) 2 gcell W3 (pv T) xG := by
    rw [hT]
    exact (hX1.keep (fun b q => b2.block b (by omega))).keep (fun b q => b3.block b (by omega))
  have hTD := ptidy_any _ ⟨[], [], [], []⟩ kIn _ W3 (hU.below bw3) (by decide) hN3 (fun b q => q)
  rw [k_tidy] at hTD
  unfold TidyP at hTD
  have HTD := Lib.hid hTD
  have HX3 := Lib.hid hX3
  have BW3 := Lib.hid bw3
  have HZ3 := Lib.hid (show w.heap.size < W3.heap.size by omega)
  have hW3x : W3 = ((w.alloc (.cells #[.int .i32 120, .int .u8 0] 50)).alloc (.cells #[.int .i64 1, .int .i64 0, .int .i64 0, .slice (some ⟨w.heap.size, 0, none⟩) 1 1, .slice none 0 0, .slice none 0 0, .string ⟨#[]⟩, .slice none 0 0, .bool false, .bool false] 39)).alloc (.cells #[.int .i64 5, .int .i64 0, .int .i64 0, .slice none 0 0, .slice none 0 0, .slice none 0 0, .string ⟨#[]⟩, .slice none 0 0, .bool false, .bool false, .int .i64 1, .int .i64 0, .int .i64 0, .slice (some ⟨w.heap.size, 0, none⟩) 1 1, .slice (some ⟨w.heap.size + 1, 0, none⟩) 1 1, .slice none 0 0, .string ⟨#[]⟩, .slice none 0 0, .bool false, .bool false] 39) := by
    rw [hW3, hW2, z1, hT, hW1]
    rfl
  have HW3 := Lib.hid hW3x
  have HOUT : Hid (∀ (w5 : World), Below W3.heap.size W3 w5 → ∀ (s : PV), NsS (fun b => b < w5.heap.size) w5 (pv s) kOut → ∀ W7, W7 = (w5.alloc (.cells #[.int .i64 3, .int .i64 0, .int .i64 0, .slice (some ⟨w.heap.size, 0, none⟩) 1 1, .slice none 0 0, .slice none 0 0, .string ⟨#[]⟩, .slice none 0 0, .bool false, .bool false] 39)).alloc (.cells #[.int .i64 1, .int .i64 0, .int .i64 0, .slice (some ⟨w.heap.size, 0, none⟩) 1 1, .slice (some ⟨w5.heap.size, 0, none⟩) 1 1, .slice none 0 0, .string ⟨#[]⟩, .slice none 0 0, .bool false, .bool false] 39) →
      Calls Tryd.prog 28 #[pv s, .slice (some ⟨w5.heap.size + 1, 0, none⟩) 1 1] W7 fun e w' => e = .returned (.bool true) ∧ Below w5.heap.size w5 w') := Lib.hid (fun w5 hb s hs W7 hW7 => by
    have hX5 : FsS (fun b => b < w5.heap.size) 2 gcell w5 (pv T) xG := (hX3.keep (fun b q => hb.block b (by omega))).mono (fun b q => by have := hb.size; omega)
    obtain ⟨W6, hW6⟩ : ∃ W, W = w5.alloc (.cells (flatV ncell [nvT 3 T nilP]).toArray 39) := ⟨_, rfl⟩
    have z6 : W6.heap.size = w5.heap.size + 1 := by rw [hW6, World.size_alloc]
    have b6 : Below w5.heap.size w5 W6 := by rw [hW6]; exact below_lit _ _
    have hN6 : NsS (fun b => b < W6.heap.size) W6 (.slice (some ⟨w5.heap.size, 0, none⟩) 1 1) [.mk (hTx 3) []] := by
      have := ns_lit w5 [nvT 3 T nilP] [.mk (hTx 3) []] rfl (fun b q => q) (fun i x y a b => by
        obtain ⟨rfl, rfl⟩ := one_at a b
        exact ⟨hd_tx 3 hX5, NsS.nil _ _⟩)
      rw [← hW6] at this
      exact this.mono (fun b q => by rcases q with q | q <;> omega)
    have hX6 : FsS (fun b => b < W6.heap.size) 2 gcell W6 (pv T) xG := (hX5.keep (Kp.below b6 (fun b q => q))).mono (fun b q => by omega)
    have h7 : W7 = W6.alloc (.cells (flatV ncell [nvT 1 T (some ⟨w5.heap.size, 0, none⟩, 1, 1)]).toArray 39) := by
      rw [hW7, hW6, hT]
      rfl
    have z7 : W7.heap.size = W6.heap.size + 1 := by rw [h7, World.size_alloc]
    have b7 : Below W6.heap.size W6 W7 := by rw [h7]; exact below_lit _ _
    have hN7 : NsS (fun b => b < W7.heap.size) W7 (.slice (some ⟨W6.heap.size, 0, none⟩) 1 1) kOut := by
      have := ns_lit W6 [nvT 1 T (some ⟨w5.heap.size, 0, none⟩, 1, 1)] kOut rfl (fun b q => q) (fun i x y a b => by
        obtain ⟨rfl, rfl⟩ := one_at a b
        exact ⟨hd_tx 1 hX6, hN6⟩)
      rw [← h7] at this
      exact this.mono (fun b q => by rcases q with q | q <;> omega)
    have b57 : Below w5.heap.size w5 W7 := b6.trans (b7.mono (by omega))
    have hs7 : NsS (fun b => b < w5.heap.size) W7 (pv s) kOut := hs.keep (Kp.below b57 (fun b q => q))
    rw [z6] at hN7
    refine (rsame_any _ _ (cntL kOut) kOut kOut rfl (by decide) (by decide) _ _ W7 hs7 hN7 (fun b q => by omega) (fun b q => q)).mono ?_
    rintro e w' ⟨he, hb'⟩
    exact ⟨by rw [he, eqNs_true rfl], b57.trans (hb'.mono b57.size)⟩)
  unfold docV docL at HTD
  simp only [pv] at HTD HOUT
  rw [show W2.heap.size = w.heap.size + 1 + 1 by rw [z2, z1]] at HTD
  clear hW1 hW2 hW3 hT hX1 hX1' hX2 hX3 hN2 hN3 b1 b2 b3 bw3 z1 z2 z3 hTD hW3x hU
  go_enter Tryd.func10, Tryd.ntmps10
  go_wp2_with fail
  rw [← HW3.out]
  refine HTD.out.mono ?_
  rintro e w4 ⟨⟨s1, s2, s3⟩, rfl, hN4, b4⟩
  have B4 := Lib.hid b4
  have b5 := below_lit w4 (.cells #[.string ⟨#[]⟩, .string ⟨#[]⟩, .string ⟨#[]⟩, .string ⟨#[]⟩, .slice s1 s2 s3] 24)
  have HC := Lib.hid (HOUT.out _ (b4.trans (b5.mono b4.size)) (s1, s2, s3) ((hN4.mono (fun b q => q.2)).keep (Kp.below b5 (fun b q => q)) |>.mono (fun b q => Nat.lt_of_lt_of_le q b5.size)) _ rfl)
  rw [World.size_alloc] at HC
  have B5 := Lib.hid (BW3.out.trans ((b4.trans (b5.mono b4.size)).mono BW3.out.size))
  simp only [pv] at HC
  clear b4 b5 hN4 HOUT HTD
  go_wp2_with fail
  refine HC.out.mono ?_
  rintro e w6 ⟨rfl, b6⟩
  have B6 := Lib.hid (B5.out.trans (b6.mono (Nat.le_trans B5.out.size (by rw [World.size_alloc]; exact Nat.le_refl _))))
  clear b6 HC
  go_wp2_with fail
  go_ret
  exact ⟨rfl, B6.out⟩
end Go.Proofs.YtienjlbpaedbjaaDoor
