/- The law IntegerRoots: it answers true. -/
import Derived.Test.YtagmdeabneapaaaPowA
import Derived.Test.YtagmdeabneapaaaLawB
import Derived.Test.YtagmdeabneapaaaAwake
namespace Go.Proofs.Ytagmdeabneapaaa
open Go.RowKit
set_option linter.unusedSimpArgs false

theorem power_is (v : Value) (x z nI : Int) (n : Nat) (w : World) (h : IntAt w v x) (hx : Fits x 6) (hn : n ≤ 14) (hnI : nI = (n : Int)) (hz : x ^ n = z) :
    Calls Try.prog 46 #[v, .int .i64 nI] w fun e w' => IsIE w w' z 0 e := by
  subst hz
  subst hnI
  have hb : bl x.natAbs ≤ 192 := bl_le.2 (by have : x.natAbs < B32 ^ 6 := hx; rw [B32_pow] at this; exact this)
  have hm : n * bl x.natAbs ≤ 14 * 192 := Nat.mul_le_mul hn hb
  exact Power_low v x n 6 w h (by decide) hx (by omega) (by omega)
theorem mul_is (v1 v2 : Value) (x y z : Int) (m k : Nat) (w : World) (h1 : IntAt w v1 x) (h2 : IntAt w v2 y) (hm : m ≤ 400000) (hx : Fits x m) (hk : k ≤ 400000) (hy : Fits y k) (hz : x * y = z) :
    Calls Try.prog 42 #[v1, v2] w fun e w' => IsInt w w' z e := by
  subst hz
  exact Mul_any v1 v2 x y m k w h1 h2 hm hx hk hy
theorem root_one {x r s : Nat} (h : IsRoot x r) (k : IsRoot x s) : r = s := by
  rcases Nat.lt_trichotomy r s with h1 | h1 | h1
  · have := Nat.mul_le_mul (show r + 1 ≤ s from h1) (show r + 1 ≤ s from h1)
    have := h.2; have := k.1; omega
  · exact h1
  · have := Nat.mul_le_mul (show s + 1 ≤ r from h1) (show s + 1 ≤ r from h1)
    have := k.2; have := h.1; omega
theorem root_square (n : Nat) : IsRoot (n * n) n := ⟨Nat.le_refl _, Nat.mul_lt_mul'' (Nat.lt_succ_self n) (Nat.lt_succ_self n)⟩
theorem root_sq (v : Value) (x z a : Int) (w : World) (h : IntAt w v z) (hz : x * x = z) (hf : Fits z 12) (ha : (x.natAbs : Int) = a) :
    Calls Try.prog 48 #[v] w fun e w' => IsIE w w' a 0 e := by
  subst ha
  have h0 : 0 ≤ z := by rw [← hz, ← Int.natAbs_mul_self]; exact Int.natCast_nonneg _
  refine (Root_some v z 12 w h hf (by decide) h0).mono ?_
  rintro e w' ⟨r, hr, hi⟩
  have e1 : z.natAbs = x.natAbs * x.natAbs := by rw [← hz, Int.natAbs_mul]
  rw [e1] at hr
  rw [root_one hr (root_square x.natAbs)] at hi
  exact hi
theorem root_is (v : Value) (x : Int) (r : Nat) (w : World) (h : IntAt w v x) (hf : Fits x 6) (h0 : 0 ≤ x) (hr : IsRoot x.natAbs r) :
    Calls Try.prog 48 #[v] w fun e w' => IsIE w w' (r : Int) 0 e := by
  refine (Root_some v x 6 w h hf (by decide) h0).mono ?_
  rintro e w' ⟨s, hs, hi⟩
  rw [root_one hs hr] at hi
  exact hi
theorem abs_is (v : Value) (x a : Int) (m : Nat) (w : World) (h : IntAt w v x) (hm : m ≤ 400000) (hx : Fits x m) (ha : (x.natAbs : Int) = a) :
    Calls Try.prog 36 #[v] w fun e w' => IsInt w w' a e := by
  subst ha
  exact Abs_any v x m w h hx (by omega)
theorem cmp_is (v1 v2 : Value) (x y g : Int) (m : Nat) (w : World) (h1 : IntAt w v1 x) (h2 : IntAt w v2 y) (hm : m ≤ 900000) (hx : Fits x m) (hy : Fits y m) (hg : cmpZ x y = g) :
    Calls Try.prog 32 #[v1, v2] w fun e w' => IsNum w w' g e := by
  subst hg
  exact Cmp_any v1 v2 x y m w h1 h2 hm hx hy
theorem sign_is (v : Value) (x g : Int) (m : Nat) (w : World) (h : IntAt w v x) (hm : m ≤ 900000) (hx : Fits x m) (hg : x.sign = g) :
    Calls Try.prog 22 #[v] w fun e w' => IsNum w w' g e := by
  subst hg
  exact Sign_any v x m w h hm hx
theorem sign_ge {x : Int} (h : 0 ≤ x) : 0 ≤ x.sign := by
  by_cases h0 : x = 0
  · subst h0; decide
  · rw [Int.sign_eq_one_of_pos (by omega)]; decide
/-- Every number has a root. -/
theorem root_there (x : Nat) : ∃ r, IsRoot x r := by
  induction x with
  | zero => exact ⟨0, Nat.le_refl _, by decide⟩
  | succ x ih =>
    obtain ⟨r, h1, h2⟩ := ih
    by_cases h : x + 1 < (r + 1) * (r + 1)
    · exact ⟨r, by omega, h⟩
    · refine ⟨r + 1, by omega, ?_⟩
      have e : (r + 1 + 1) * (r + 1 + 1) = (r + 1) * (r + 1) + 2 * (r + 1) + 1 := by
        simp only [Nat.add_mul, Nat.mul_add]; omega
      omega
/-- The numbers of the law. -/
structure RootZ (x p q s xx a : Int) (i k : Nat) : Prop where
  p_ : x ^ i = p
  q_ : x ^ k = q
  s_ : x ^ (i + k) = s
  pq : p * q = s
  xx_ : x * x = xx
  a_ : (x.natAbs : Int) = a
  fp : Fits p 42
  fq : Fits q 42
  fs : Fits s 84
  fxx : Fits xx 12
  fa : Fits a 6
theorem pow_size {x : Int} (hx : Fits x 6) {n m : Nat} (hn : n * 192 ≤ 32 * m) (hm : 0 < m) : Fits (x ^ n) m := by
  unfold Fits
  rw [Int.natAbs_pow, B32_pow]
  exact pow_lt_two (b := 192) (by have : x.natAbs < B32 ^ 6 := hx; rw [B32_pow] at this; exact this) hn (by omega)
theorem mul_size {x y : Int} {m k : Nat} (hx : Fits x m) (hy : Fits y k) : Fits (x * y) (m + k) := by
  unfold Fits
  rw [Int.natAbs_mul, Nat.pow_add]
  exact Nat.mul_lt_mul'' hx hy
theorem rootZ (x : Int) (i k : Nat) (hx : Fits x 6) (hi : i ≤ 7) (hk : k ≤ 7) : ∃ p q s xx a, Hid (RootZ x p q s xx a i k) :=
  ⟨_, _, _, _, _, Lib.hid ⟨rfl, rfl, rfl, (Int.pow_add x i k).symm, rfl, rfl, pow_size hx (by omega) (by decide), pow_size hx (by omega) (by decide), pow_size hx (by omega) (by decide), mul_size hx hx,
    by have h : x.natAbs < B32 ^ 6 := hx; unfold Fits; simpa using h⟩⟩
/-- The numbers of the root. -/
structure RootY (x : Int) (r : Nat) (rr n nn g h : Int) : Prop where
  r_ : IsRoot x.natAbs r
  fr : Fits (r : Int) 6
  rr_ : (r : Int) * (r : Int) = rr
  frr : Fits rr 14
  n_ : (r : Int) + 1 = n
  fn : Fits n 7
  nn_ : n * n = nn
  fnn : Fits nn 14
  g_ : cmpZ rr x = g
  h_ : cmpZ x nn = h
theorem cmp_le {x y : Int} (h : x ≤ y) : cmpZ x y ≤ 0 := by
  unfold cmpZ
  split
  · decide
  · split <;> omega
theorem cmp_lt {x y : Int} (h : x < y) : cmpZ x y < 0 := by
  unfold cmpZ
  rw [if_pos h]
  decide
theorem rootY (x : Int) (hx : Fits x 6) (h0 : 0 ≤ x) : ∃ r rr n nn g h, Hid (RootY x r rr n nn g h) ∧ g ≤ 0 ∧ h < 0 := by
  obtain ⟨r, hr⟩ := root_there x.natAbs
  have hle : r ≤ x.natAbs := by
    rcases Nat.eq_zero_or_pos r with e | e
    · omega
    · exact Nat.le_trans (Nat.le_mul_of_pos_left r e) hr.1
  have hfr : Fits (r : Int) 6 := by unfold Fits; rw [Int.natAbs_natCast]; exact Nat.lt_of_le_of_lt hle hx
  have hfn : Fits ((r : Int) + 1) 7 := by
    have h1 : r < B32 ^ 6 := Nat.lt_of_le_of_lt hle hx
    unfold Fits
    rw [show ((r : Int) + 1).natAbs = r + 1 by omega, Nat.pow_succ]
    have : B32 ^ 6 * 2 ≤ B32 ^ 6 * B32 := Nat.mul_le_mul_left _ (by decide)
    have : 0 < B32 ^ 6 := Nat.pow_pos B32_pos
    omega
  have hrr := mul_size hfr hfr
  have h1 : (r : Int) * (r : Int) ≤ x := by have := hr.1; have e : (r : Int) * (r : Int) = ((r * r : Nat) : Int) := by simp
                                            rw [e]; omega
  have h2 : x < ((r : Int) + 1) * ((r : Int) + 1) := by have := hr.2; have e : ((r : Int) + 1) * ((r : Int) + 1) = (((r + 1) * (r + 1) : Nat) : Int) := by simp
                                                        rw [e]; omega
  exact ⟨r, _, _, _, _, _, Lib.hid ⟨hr, hfr, rfl, hrr.up (by decide), rfl, hfn, rfl, mul_size hfn hfn, rfl, rfl⟩, cmp_le h1, cmp_lt h2⟩

/-- No string shares the variable's cells. -/
def Frz (w : World) (r : Nat) : Prop := w.frozen? ⟨r, 0, none⟩ = false ∧ w.frozen? ⟨r, 1, none⟩ = false
theorem Frz.new (w : World) (a b : Value) (t : TypeId) : Frz (w.alloc (.cells #[a, b] t)) w.heap.size := by
  unfold Frz
  constructor <;> go_simp
theorem Frz.step {w w' : World} {r : Nat} (h : Frz w r) (hb : Below w.heap.size w w') (hl : r < w.heap.size) : Frz w' r :=
  ⟨(hb.frozen (p := ⟨r, 0, none⟩) hl).trans h.1, (hb.frozen (p := ⟨r, 1, none⟩) hl).trans h.2⟩
theorem Nums.stored {w : World} {k : IntKind} {A : Option Addr} {xs : List Nat} (h : Nums w k A xs) {r : Nat} {b : Bool} {B : Option Addr} {n c : Nat} (t : Two w r (.bool b) (.slice B n c)) (u v : Value) : Nums ((w.setCell ⟨r, 0, none⟩ u).setCell ⟨r, 1, none⟩ v) k A xs := by
  refine (h.store t.1 (fun n e => by cases e) _).store (u := .slice B n c) ?_ (fun n e => by cases e) _
  rw [World.cell?_setCell_other _ _ _ _ (by simp)]
  exact t.2
/-- A value that was handed back is stored into a variable that stands there. -/
theorem Vars.over {W : World} {t o x : VarT} (h : Vars W [t, o, x]) (ho : o.here = true) (hne : o.r ≠ x.r) :
    Vars ((W.setCell ⟨o.r, 0, none⟩ (.bool t.b)).setCell ⟨o.r, 1, none⟩ (.slice t.A t.n t.c)) [⟨true, o.r, t.b, t.A, t.n, t.c, t.z⟩, x] := by
  have hs : ((W.setCell ⟨o.r, 0, none⟩ (.bool t.b)).setCell ⟨o.r, 1, none⟩ (.slice t.A t.n t.c)).heap.size = W.heap.size := by simp [World.setCell]
  have h2 := (h 1 o rfl).two ho
  have hi : ∀ {v : Value} {z : Int}, IntAt W v z → IntAt ((W.setCell ⟨o.r, 0, none⟩ (.bool t.b)).setCell ⟨o.r, 1, none⟩ (.slice t.A t.n t.c)) v z := fun hv => by
    obtain ⟨b, A, c, zs, e, hsg, hl⟩ := hv
    exact ⟨b, A, c, zs, e, hsg, hl.1, hl.2.1.stored h2 _ _, hl.2.2⟩
  have hx := h 2 x rfl
  refine ((Vars.nil _).cons ⟨fun e => by rw [hs]; exact hx.lt e, fun e => (hx.two e).far hne _ _, hi hx.at_⟩).cons ⟨fun _ => by rw [hs]; exact (h 1 o rfl).lt ho, fun _ => h2.stored _ _, hi (h 0 t rfl).at_⟩
theorem row1 (w : World) (s1 : Bool) (A1 : Option Addr) (n1 c1 : Nat) (t : TypeId) : NRow (w.alloc (.cells #[.bool s1, .slice A1 n1 c1] t)) w.heap.size [⟨s1, A1, n1, c1⟩] :=
  ⟨by simp, fun i x hi => by
    match i, hi with
    | 0, hi => simp at hi; subst hi; constructor <;> go_simp⟩
theorem fits_of (s : Bool) {xs : List Nat} {m : Nat} (ho : Lm.Ok B32 xs) (hl : xs.length ≤ m) : Fits (ofSign s (Lm.val B32 xs)) m := by
  have h := Nat.lt_of_lt_of_le (Lm.val_lt ho) (Nat.pow_le_pow_right B32_pos hl)
  unfold Fits ofSign
  cases s <;> simp <;> exact h

set_option maxRecDepth 100000 in
set_option maxHeartbeats 8000000 in
theorem roots_short (m n : Nat) (s1 : Bool) (A1 : Option Addr) (c1 : Nat) (xs1 : List Nat) (w : World)
    (h1 : Plain w A1 c1 xs1) (l1 : xs1.length ≤ 6) (hm : m ≤ 255) (hn : n ≤ 255) :
    Calls Try.prog 12 #[.agg #[.bool s1, .slice A1 xs1.length c1], .int .u8 (m : Int), .int .u8 (n : Int)] w fun e w' => IsBool w w' true e := by
  have hb0 : Below w.heap.size w (w.alloc (.cells #[.bool s1, .slice A1 xs1.length c1] 24)) := (Below.refl _ _).alloc (Nat.le_refl _) _
  have hx0 : Two (w.alloc (.cells #[.bool s1, .slice A1 xs1.length c1] 24)) w.heap.size (.bool s1) (.slice A1 xs1.length c1) := Two.new w _ _ 24
  have hsz : (w.alloc (.cells #[.bool s1, .slice A1 xs1.length c1] 24)).heap.size = w.heap.size + 1 := by rw [size_alloc]
  have hba : Below (w.alloc (.cells #[.bool s1, .slice A1 xs1.length c1] 24)).heap.size (w.alloc (.cells #[.bool s1, .slice A1 xs1.length c1] 24)) ((w.alloc (.cells #[.bool s1, .slice A1 xs1.length c1] 24)).alloc (.cells #[.bool s1, .slice A1 xs1.length c1] 24)) := (Below.refl _ _).alloc (Nat.le_refl _) _
  have hx1 := hx0.step hba rfl (by omega)
  have hsh : Calls Try.prog 14 #[.int .i64 6, .slice (some ⟨w.heap.size + 1, 0, none⟩) 1 1] ((w.alloc (.cells #[.bool s1, .slice A1 xs1.length c1] 24)).alloc (.cells #[.bool s1, .slice A1 xs1.length c1] 24)) fun e w' => IsBool ((w.alloc (.cells #[.bool s1, .slice A1 xs1.length c1] 24)).alloc (.cells #[.bool s1, .slice A1 xs1.length c1] 24)) w' true e := by
    have hr := row1 (w.alloc (.cells #[.bool s1, .slice A1 xs1.length c1] 24)) s1 A1 xs1.length c1 24
    rw [hsz] at hr
    have := shortN_any (w.heap.size + 1) 6 [⟨s1, A1, xs1.length, c1⟩] _ hr (by simp)
    rw [decide_eq_true (show AllS 6 [⟨s1, A1, xs1.length, c1⟩] from fun y hy => by simp at hy; subst hy; exact l1)] at this
    exact this
  have H := Lib.hid (And.intro hsh (And.intro (below_then hb0 hba) (And.intro hx1 hsz)))
  have HP := Lib.hid (And.intro h1 (fits_of s1 h1.2.1 l1))
  clear hb0 hx0 hsz hba hx1 hsh h1 l1
  go_enter Try.func12, Try.ntmps12
  go_wp2_with fail
  refine H.out.1.mono ?_
  rintro e w1 ⟨rfl, hb1⟩
  have sz0 : w.heap.size + 2 ≤ w1.heap.size := by have := hb1.size; have h2 := H.out.2.2.2; rw [size_alloc] at this; omega
  have kx := H.out.2.2.1.step hb1 rfl (by rw [size_alloc]; have := H.out.2.2.2; omega)
  have bl1 := below_then H.out.2.1 hb1
  have hba : Below w1.heap.size w1 (w1.alloc (.cells #[.bool s1, .slice A1 xs1.length c1] 24)) := (Below.refl _ _).alloc (Nat.le_refl _) _
  have bl2 := below_then bl1 hba
  have hmk := madeN_any w1.heap.size [⟨s1, A1, xs1.length, c1⟩] [ofSign s1 (Lm.val B32 xs1)] _ (row1 w1 s1 A1 xs1.length c1 24)
    ⟨rfl, fun i x z hx hz => by
      match i, hx, hz with
      | 0, hx, hz => simp at hx hz; subst hx hz; exact ⟨xs1, rfl, HP.out.1.step bl2 rfl, rfl⟩⟩ (by simp) (by simp)
  obtain ⟨x, hx⟩ : ∃ x, ofSign s1 (Lm.val B32 xs1) = x := ⟨_, rfl⟩
  have hfx := HP.out.2
  rw [hx] at hfx hmk
  have HM := Lib.hid (And.intro (show Calls Try.prog 64 #[.slice (some ⟨w1.heap.size, 0, none⟩) 1 1] _ _ from hmk) (And.intro bl2 hfx))
  obtain ⟨px0, px1⟩ := id kx
  clear hb1 kx bl1 hba bl2 hmk hx hfx HP H
  go_wp2_with fail
  refine HM.out.1.mono ?_
  rintro e w2 ⟨g, cc, rfl, hcc, hlt, hcells, hb2⟩
  obtain ⟨u1, v1, f0, f1, ⟨b1, B1, k1, d1, rfl, rfl, _, hi1⟩⟩ := hcells 0 x rfl
  have bl2 := below_then HM.out.2.1 hb2
  have hv2 := ((Vars.nil w2).cons (t := ⟨false, 0, b1, B1, k1, d1, x⟩) ⟨fun e => (by cases e), fun e => (by cases e), hi1⟩).laid 28
  have hl2 := bl2.alloc (Nat.le_trans (Nat.le_refl _) bl2.size) (.cells #[.bool b1, .slice B1 k1 d1] 28)
  have HF := Lib.hid HM.out.2.2
  simp only [List.length_cons, List.length_nil, Nat.mul_zero, Nat.zero_add] at f0 f1 hcc ⊢
  obtain ⟨W2, hW2⟩ : ∃ W : World, W = w2.alloc (.cells #[.bool b1, .slice B1 k1 d1] 28) := ⟨_, rfl⟩
  obtain ⟨r2, hr2⟩ : ∃ r : Nat, r = w2.heap.size := ⟨_, rfl⟩
  rw [← hW2] at hv2 hl2
  rw [← hr2] at hv2
  have HC := Lib.hid (And.intro hv2 hl2)
  have HW := Lib.hid hW2
  have HR := Lib.hid hr2
  clear hcells hi1 bl2 hb2 px0 px1 HM hv2 hl2 hW2 hr2
  have hcc' : (1 : Int) ≤ (cc : Int) := by omega
  have a0 := fun o1 : Obj => (World.cell?_alloc_lt w2 o1 ⟨g, 0, none⟩ hlt).trans f0
  have a1 := fun o1 : Obj => (World.cell?_alloc_lt w2 o1 ⟨g, 1, none⟩ hlt).trans f1
  go_upto_region 4 with fail
  rw [← HW.out, ← HR.out]
  clear HW HR f0 f1 a0 a1 hcc' hcc hlt
  obtain ⟨i, hi⟩ : ∃ i, m % 8 = i := ⟨_, rfl⟩
  obtain ⟨k, hk⟩ : ∃ k, n % 8 = k := ⟨_, rfl⟩
  have hi7 : i ≤ 7 := by omega
  have hk7 : k ≤ 7 := by omega
  have hiI : (m : Int) % 8 = (i : Int) := by omega
  have hkI : (n : Int) % 8 = (k : Int) := by omega
  obtain ⟨p, q, s, xx, xa, HZ⟩ := rootZ x i k HF.out hi7 hk7
  clear hi hk
  go_upto_region 5 with fail
  obtain ⟨px0, px1⟩ : Two W2 r2 (.bool b1) (.slice B1 k1 d1) := (HC.out.1 0 _ rfl).two rfl
  go_wp2_with fail
  refine (power_is _ x p _ i _ ((HC.out.1 0 _ rfl).at_) HF.out (by omega) rfl HZ.out.p_).mono ?_
  rintro e wq1 ⟨qv1, rfl, ⟨qb1, qA1, qc1, qs1, rfl, qg1, ql1⟩, hb1⟩
  have hv1 := ((HC.out.1.step hb1 rfl).told qg1 ql1).laid 28
  have hl1 : Below w.heap.size w (wq1.alloc (.cells #[.bool qb1, .slice qA1 qs1.length qc1] 28)) := (below_then HC.out.2 hb1).alloc (Nat.le_trans HC.out.2.size hb1.size) _
  obtain ⟨Wq1, hW1⟩ : ∃ W : World, W = wq1.alloc (.cells #[.bool qb1, .slice qA1 qs1.length qc1] 28) := ⟨_, rfl⟩
  obtain ⟨rq1, hr1⟩ : ∃ r : Nat, r = wq1.heap.size := ⟨_, rfl⟩
  rw [← hW1] at hv1 hl1
  rw [← hr1] at hv1
  have HC1 := Lib.hid (And.intro hv1 hl1)
  have HW1 := Lib.hid hW1
  have HR1 := Lib.hid hr1
  clear px0 px1
  clear hv1 hl1 hW1 hr1 qg1 ql1 hb1 HC
  go_upto_region 6 with fail
  rw [← HW1.out, ← HR1.out]
  clear HW1 HR1
  obtain ⟨px0, px1⟩ : Two Wq1 r2 (.bool b1) (.slice B1 k1 d1) := (HC1.out.1 1 _ rfl).two rfl
  go_wp2_with fail
  refine (power_is _ x q _ k _ ((HC1.out.1 1 _ rfl).at_) HF.out (by omega) rfl HZ.out.q_).mono ?_
  rintro e wq2 ⟨qv2, rfl, ⟨qb2, qA2, qc2, qs2, rfl, qg2, ql2⟩, hb2⟩
  have hv2 := ((HC1.out.1.step hb2 rfl).told qg2 ql2).laid 28
  have hl2 : Below w.heap.size w (wq2.alloc (.cells #[.bool qb2, .slice qA2 qs2.length qc2] 28)) := (below_then HC1.out.2 hb2).alloc (Nat.le_trans HC1.out.2.size hb2.size) _
  obtain ⟨Wq2, hW2⟩ : ∃ W : World, W = wq2.alloc (.cells #[.bool qb2, .slice qA2 qs2.length qc2] 28) := ⟨_, rfl⟩
  obtain ⟨rq2, hr2⟩ : ∃ r : Nat, r = wq2.heap.size := ⟨_, rfl⟩
  rw [← hW2] at hv2 hl2
  rw [← hr2] at hv2
  have HC2 := Lib.hid (And.intro hv2 hl2)
  have HW2 := Lib.hid hW2
  have HR2 := Lib.hid hr2
  clear px0 px1
  clear hv2 hl2 hW2 hr2 qg2 ql2 hb2 HC1
  go_upto_region 7 with fail
  rw [← HW2.out, ← HR2.out]
  clear HW2 HR2
  obtain ⟨px0, px1⟩ : Two Wq2 r2 (.bool b1) (.slice B1 k1 d1) := (HC2.out.1 2 _ rfl).two rfl
  go_wp2_with fail
  refine (power_is _ x s _ (i + k) _ ((HC2.out.1 2 _ rfl).at_) HF.out (by omega) (by omega) HZ.out.s_).mono ?_
  rintro e wq3 ⟨qv3, rfl, ⟨qb3, qA3, qc3, qs3, rfl, qg3, ql3⟩, hb3⟩
  have hv3 := ((HC2.out.1.step hb3 rfl).told qg3 ql3).laid 28
  have hl3 : Below w.heap.size w (wq3.alloc (.cells #[.bool qb3, .slice qA3 qs3.length qc3] 28)) := (below_then HC2.out.2 hb3).alloc (Nat.le_trans HC2.out.2.size hb3.size) _
  obtain ⟨Wq3, hW3⟩ : ∃ W : World, W = wq3.alloc (.cells #[.bool qb3, .slice qA3 qs3.length qc3] 28) := ⟨_, rfl⟩
  obtain ⟨rq3, hr3⟩ : ∃ r : Nat, r = wq3.heap.size := ⟨_, rfl⟩
  rw [← hW3] at hv3 hl3
  rw [← hr3] at hv3
  have HC3 := Lib.hid (And.intro hv3 hl3)
  have HW3 := Lib.hid hW3
  have HR3 := Lib.hid hr3
  clear px0 px1
  clear hv3 hl3 hW3 hr3 qg3 ql3 hb3 HC2
  go_upto_region 8 with fail
  rw [← HW3.out, ← HR3.out]
  clear HW3 HR3
  obtain ⟨px0, px1⟩ : Two Wq3 r2 (.bool b1) (.slice B1 k1 d1) := (HC3.out.1 3 _ rfl).two rfl
  go_wp2_with fail
  refine (mul_is _ _ x x xx 6 6 _ ((HC3.out.1 3 _ rfl).at_) ((HC3.out.1 3 _ rfl).at_) (by decide) HF.out (by decide) HF.out HZ.out.xx_).mono ?_
  rintro e wqm ⟨qvm, rfl, ⟨qbm, qAm, qcm, qsm, rfl, qgm, qlm⟩, hbm⟩
  have HCm := Lib.hid (And.intro ((HC3.out.1.step hbm rfl).told qgm qlm) (below_then HC3.out.2 hbm))
  clear px0 px1
  clear hbm qgm qlm HC3
  go_wp2_with fail
  refine (root_sq _ x xx xa _ ((HCm.out.1 0 _ rfl).at_) HZ.out.xx_ HZ.out.fxx HZ.out.a_).mono ?_
  rintro e wq4 ⟨qv4, rfl, ⟨qb4, qA4, qc4, qs4, rfl, qg4, ql4⟩, hb4⟩
  have hv4 := ((HCm.out.1.step hb4 rfl).told qg4 ql4).laid 28
  have hl4 : Below w.heap.size w (wq4.alloc (.cells #[.bool qb4, .slice qA4 qs4.length qc4] 28)) := (below_then HCm.out.2 hb4).alloc (Nat.le_trans HCm.out.2.size hb4.size) _
  obtain ⟨Wq4, hW4⟩ : ∃ W : World, W = wq4.alloc (.cells #[.bool qb4, .slice qA4 qs4.length qc4] 28) := ⟨_, rfl⟩
  obtain ⟨rq4, hr4⟩ : ∃ r : Nat, r = wq4.heap.size := ⟨_, rfl⟩
  have HN8 := Lib.hid (show r2 < rq4 ∧ w.heap.size ≤ rq4 from by rw [hr4]; exact ⟨Nat.lt_of_lt_of_le ((HCm.out.1 4 _ rfl).lt rfl) hb4.size, Nat.le_trans HCm.out.2.size hb4.size⟩)
  rw [← hW4] at hv4 hl4
  rw [← hr4] at hv4
  have HC4 := Lib.hid (And.intro hv4 hl4)
  have HW4 := Lib.hid hW4
  have HR4 := Lib.hid hr4
  clear hv4 hl4 hW4 hr4 qg4 ql4 hb4 HCm
  go_upto_region 9 with fail
  rw [← HW4.out, ← HR4.out]
  have HFz := Lib.hid (show Frz Wq4 rq4 from by rw [HW4.out, HR4.out]; exact Frz.new _ _ _ _)
  clear HW4 HR4
  have HB8 := Lib.hid (And.intro HC4.out.2 (And.intro HFz.out ((HC4.out.1 0 _ rfl).lt rfl)))
  have HC8 := Lib.hid (And.intro HC4.out.1.skip (Below.refl Wq4.heap.size Wq4))
  clear HC4 HFz
  go_cut [82] (fun s82 wx => s82 = .bool false ∧ ∃ W : World, W = wx ∧ Vars W [⟨true, rq4, qb4, qA4, qs4.length, qc4, xa⟩, ⟨true, rq3, qb3, qA3, qs3.length, qc3, s⟩, ⟨true, rq2, qb2, qA2, qs2.length, qc2, q⟩, ⟨true, rq1, qb1, qA1, qs1.length, qc1, p⟩, ⟨true, r2, b1, B1, k1, d1, x⟩] ∧ Below Wq4.heap.size Wq4 W)
  case first => as_aux_lemma =>
    have HD6 := Lib.hid (And.intro HC8.out.1.drew HC8.out.2.drew)
    refine wp_region_held_drew (S := Cells [⟨true, rq4, qb4, qA4, qs4.length, qc4, xa⟩, ⟨true, rq3, qb3, qA3, qs3.length, qc3, s⟩, ⟨true, rq2, qb2, qA2, qs2.length, qc2, q⟩, ⟨true, rq1, qb1, qA1, qs1.length, qc1, p⟩, ⟨true, r2, b1, B1, k1, d1, x⟩]) (by kernel_rfl) (HD6.out.1.cells) (fun hH0 => ?_)
    refine wpAnyH_take (i := 0) (v := (.int .i64 0)) rfl (by kernel_rfl) (by kernel_rfl) (by kernel_rfl) (fun _ _ _ h => h) (Or.inl ⟨by kernel_rfl, fun _ _ => by kernel_rfl⟩) hH0 ?r1
    change wpAnyH _ _ _ _ _ _ _ (Act.put _ (some 62) _) _
    simp only [Act.put, List.setIfInBounds_toArray, List.set_cons_zero, List.set_cons_succ]
    refine wpAnyH_take (i := 1) (v := (.int .i64 0)) rfl (by kernel_rfl) (by kernel_rfl) (by kernel_rfl) (fun _ _ _ h => h) (Or.inl ⟨by kernel_rfl, fun _ _ => by kernel_rfl⟩) hH0 ?r2
    change wpAnyH _ _ _ _ _ _ _ (Act.put _ (some 63) _) _
    simp only [Act.put, List.setIfInBounds_toArray, List.set_cons_zero, List.set_cons_succ]
    refine wpAnyH_take (i := 2) (v := (.int .i64 0)) rfl (by kernel_rfl) (by kernel_rfl) (by kernel_rfl) (fun _ _ _ h => h) (Or.inl ⟨by kernel_rfl, fun _ _ => by kernel_rfl⟩) hH0 ?r3
    change wpAnyH _ _ _ _ _ _ _ (Act.put _ (some 64) _) _
    simp only [Act.put, List.setIfInBounds_toArray, List.set_cons_zero, List.set_cons_succ]
    refine wpAnyH_take (i := 3) (v := (.int .i64 0)) rfl (by kernel_rfl) (by kernel_rfl) (by kernel_rfl) (fun _ _ _ h => h) (Or.inl ⟨by kernel_rfl, fun _ _ => by kernel_rfl⟩) hH0 ?r4
    change wpAnyH _ _ _ _ _ _ _ (Act.put _ (some 65) _) _
    simp only [Act.put, List.setIfInBounds_toArray, List.set_cons_zero, List.set_cons_succ]
    refine wpAnyH_take (i := 4) (v := (.int .i64 0)) rfl (by kernel_rfl) (by kernel_rfl) (by kernel_rfl) (fun _ _ _ h => h) (Or.inl ⟨by kernel_rfl, fun _ _ => by kernel_rfl⟩) hH0 ?r5
    change wpAnyH _ _ _ _ _ _ _ (Act.put _ (some 66) _) _
    simp only [Act.put, List.setIfInBounds_toArray, List.set_cons_zero, List.set_cons_succ]
    refine wpAnyH_take (i := 5) (v := (.bool false)) rfl (by kernel_rfl) (by kernel_rfl) (by kernel_rfl) (fun _ _ _ h => h) (Or.inl ⟨by kernel_rfl, fun _ _ => by kernel_rfl⟩) hH0 ?r6
    change wpAnyH _ _ _ _ _ _ _ (Act.put _ (some 67) _) _
    simp only [Act.put, List.setIfInBounds_toArray, List.set_cons_zero, List.set_cons_succ]
    refine wpAnyH_take (i := 6) (v := (.bool false)) rfl (by kernel_rfl) (by kernel_rfl) (by kernel_rfl) (fun _ _ _ h => h) (Or.inl ⟨by kernel_rfl, fun _ _ => by kernel_rfl⟩) hH0 ?r7
    change wpAnyH _ _ _ _ _ _ _ (Act.put _ (some 68) _) _
    simp only [Act.put, List.setIfInBounds_toArray, List.set_cons_zero, List.set_cons_succ]
    refine wpAnyH_take (i := 7) (v := (.agg #[.bool qb1, .slice qA1 qs1.length qc1])) rfl (by kernel_rfl) (by kernel_rfl) (by kernel_rfl) (fun _ _ _ h => h) (Or.inl ⟨by kernel_rfl, fun w0 hS0 => run_load (hS0 3 _ rfl rfl) (.tmp 10) (by kernel_rfl) (by kernel_rfl)⟩) hH0 ?r8
    change wpAnyH _ _ _ _ _ _ _ (Act.put _ (some 69) _) _
    simp only [Act.put, List.setIfInBounds_toArray, List.set_cons_zero, List.set_cons_succ]
    refine wpAnyH_take (i := 8) (v := (.agg #[.bool qb2, .slice qA2 qs2.length qc2])) rfl (by kernel_rfl) (by kernel_rfl) (by kernel_rfl) (fun _ _ _ h => h) (Or.inl ⟨by kernel_rfl, fun w0 hS0 => run_load (hS0 2 _ rfl rfl) (.tmp 12) (by kernel_rfl) (by kernel_rfl)⟩) hH0 ?r9
    change wpAnyH _ _ _ _ _ _ _ (Act.put _ (some 70) _) _
    simp only [Act.put, List.setIfInBounds_toArray, List.set_cons_zero, List.set_cons_succ]
    refine wpAnyH_take (i := 10) (v := (.agg #[.bool qb3, .slice qA3 qs3.length qc3])) rfl (by kernel_rfl) (by kernel_rfl) (by kernel_rfl) (fun _ _ _ h => h) (Or.inl ⟨by kernel_rfl, fun w0 hS0 => run_load (hS0 1 _ rfl rfl) (.tmp 14) (by kernel_rfl) (by kernel_rfl)⟩) hH0 ?r10
    change wpAnyH _ _ _ _ _ _ _ (Act.put _ (some 72) _) _
    simp only [Act.put, List.setIfInBounds_toArray, List.set_cons_zero, List.set_cons_succ]
    refine wpAnyH_ready (rs := [9]) (by kernel_rfl) (by simp) ?_
    refine AllReadyH.cons rfl (fun K hK0 => ?d11) (AllReadyH.nil)
    have hK := hK0.out
    clear hK0
    rw [if_pos (by kernel_rfl)]
    refine wp_go_call 42 #[(.agg #[.bool qb1, .slice qA1 qs1.length qc1]), (.agg #[.bool qb2, .slice qA2 qs2.length qc2])] (fun _ => by kernel_rfl) ((mul_is _ _ p q s 42 42 _ ((HD6.out.1 3 _ rfl).at_) ((HD6.out.1 2 _ rfl).at_) (by decide) HZ.out.fp (by decide) HZ.out.fq HZ.out.pq).mono ?_)
    rintro e wq7 ⟨qv7, rfl, ⟨qb7, qA7, qc7, qs7, rfl, qg7, ql7⟩, hb7⟩
    have HD7 := Lib.hid (And.intro ((HD6.out.1.step hb7 rfl).told qg7 ql7) (below_then HD6.out.2 hb7))
    refine ⟨(.agg #[.bool qb7, .slice qA7 qs7.length qc7]), rfl, hK _ _ (HD7.out.1.tail.cells) (fun hH7 => ?_)⟩
    clear hK K hH0
    change wpAnyH _ _ _ _ _ _ _ (Act.put _ (some 71) _) _
    simp only [Act.put, List.setIfInBounds_toArray, List.set_cons_zero, List.set_cons_succ]
    refine wpAnyH_ready (rs := [11]) (by kernel_rfl) (by simp) ?_
    refine AllReadyH.cons rfl (fun K hK0 => ?d12) (AllReadyH.nil)
    have hK := hK0.out
    clear hK0
    rw [if_pos (by kernel_rfl)]
    refine wp_go_call 65 #[(.agg #[.bool qb7, .slice qA7 qs7.length qc7]), (.agg #[.bool qb3, .slice qA3 qs3.length qc3])] (fun _ => by kernel_rfl) ((same_true _ _ s s 84 _ ((HD7.out.1 0 _ rfl).at_) ((HD7.out.1 2 _ rfl).at_) (by decide) HZ.out.fs HZ.out.fs rfl).mono ?_)
    rintro e wq8 ⟨rfl, hb8⟩
    have HD8 := Lib.hid (And.intro (HD7.out.1.step hb8 rfl) (below_then HD7.out.2 hb8))
    refine ⟨(.bool true), rfl, hK _ _ (HD8.out.1.tail.cells) (fun hH8 => ?_)⟩
    clear hK K hH7
    change wpAnyH _ _ _ _ _ _ _ (Act.put _ (some 73) _) _
    simp only [Act.put, List.setIfInBounds_toArray, List.set_cons_zero, List.set_cons_succ]
    refine wpAnyH_take (i := 12) (v := (.bool false)) rfl (by kernel_rfl) (by kernel_rfl) (by kernel_rfl) (fun _ _ _ h => h) (Or.inl ⟨by kernel_rfl, fun _ _ => by kernel_rfl⟩) hH8 ?r13
    change wpAnyH _ _ _ _ _ _ _ (Act.put _ (some 74) _) _
    simp only [Act.put, List.setIfInBounds_toArray, List.set_cons_zero, List.set_cons_succ]
    refine wpAnyH_take (i := 13) (v := (.bool false)) rfl (by kernel_rfl) (by kernel_rfl) (by kernel_rfl) (fun _ _ _ h => h) (Or.inl ⟨by kernel_rfl, fun _ _ => by kernel_rfl⟩) hH8 ?r14
    change wpAnyH _ _ _ _ _ _ _ (Act.put _ (some 75) _) _
    simp only [Act.put, List.setIfInBounds_toArray, List.set_cons_zero, List.set_cons_succ]
    refine wpAnyH_take (i := 14) (v := (.bool false)) rfl (by kernel_rfl) (by kernel_rfl) (by kernel_rfl) (fun _ _ _ h => h) (Or.inl ⟨by kernel_rfl, fun _ _ => by kernel_rfl⟩) hH8 ?r15
    change wpAnyH _ _ _ _ _ _ _ (Act.put _ (some 76) _) _
    simp only [Act.put, List.setIfInBounds_toArray, List.set_cons_zero, List.set_cons_succ]
    refine wpAnyH_take (i := 15) (v := (.agg #[.bool qb4, .slice qA4 qs4.length qc4])) rfl (by kernel_rfl) (by kernel_rfl) (by kernel_rfl) (fun _ _ _ h => h) (Or.inl ⟨by kernel_rfl, fun w0 hS0 => run_load (hS0 0 _ rfl rfl) (.tmp 16) (by kernel_rfl) (by kernel_rfl)⟩) hH8 ?r16
    change wpAnyH _ _ _ _ _ _ _ (Act.put _ (some 77) _) _
    simp only [Act.put, List.setIfInBounds_toArray, List.set_cons_zero, List.set_cons_succ]
    refine wpAnyH_take (i := 16) (v := (.agg #[.bool b1, .slice B1 k1 d1])) rfl (by kernel_rfl) (by kernel_rfl) (by kernel_rfl) (fun _ _ _ h => h) (Or.inl ⟨by kernel_rfl, fun w0 hS0 => run_load (hS0 4 _ rfl rfl) (.tmp 7) (by kernel_rfl) (by kernel_rfl)⟩) hH8 ?r17
    change wpAnyH _ _ _ _ _ _ _ (Act.put _ (some 78) _) _
    simp only [Act.put, List.setIfInBounds_toArray, List.set_cons_zero, List.set_cons_succ]
    refine wpAnyH_ready (rs := [17]) (by kernel_rfl) (by simp) ?_
    refine AllReadyH.cons rfl (fun K hK0 => ?d18) (AllReadyH.nil)
    have hK := hK0.out
    clear hK0
    rw [if_pos (by kernel_rfl)]
    refine wp_go_call 36 #[(.agg #[.bool b1, .slice B1 k1 d1])] (fun _ => by kernel_rfl) ((abs_is _ x xa 6 _ ((HD8.out.1 5 _ rfl).at_) (by decide) HF.out HZ.out.a_).mono ?_)
    rintro e wq9 ⟨qv9, rfl, ⟨qb9, qA9, qc9, qs9, rfl, qg9, ql9⟩, hb9⟩
    have HD9 := Lib.hid (And.intro ((HD8.out.1.step hb9 rfl).told qg9 ql9) (below_then HD8.out.2 hb9))
    refine ⟨(.agg #[.bool qb9, .slice qA9 qs9.length qc9]), rfl, hK _ _ (HD9.out.1.tail.tail.cells) (fun hH9 => ?_)⟩
    clear hK K hH8
    change wpAnyH _ _ _ _ _ _ _ (Act.put _ (some 79) _) _
    simp only [Act.put, List.setIfInBounds_toArray, List.set_cons_zero, List.set_cons_succ]
    refine wpAnyH_ready (rs := [18]) (by kernel_rfl) (by simp) ?_
    refine AllReadyH.cons rfl (fun K hK0 => ?d19) (AllReadyH.nil)
    have hK := hK0.out
    clear hK0
    rw [if_pos (by kernel_rfl)]
    refine wp_go_call 65 #[(.agg #[.bool qb4, .slice qA4 qs4.length qc4]), (.agg #[.bool qb9, .slice qA9 qs9.length qc9])] (fun _ => by kernel_rfl) ((same_true _ _ xa xa 6 _ ((HD9.out.1 2 _ rfl).at_) ((HD9.out.1 0 _ rfl).at_) (by decide) HZ.out.fa HZ.out.fa rfl).mono ?_)
    rintro e wq10 ⟨rfl, hb10⟩
    have HD10 := Lib.hid (And.intro (HD9.out.1.step hb10 rfl) (below_then HD9.out.2 hb10))
    refine ⟨(.bool true), rfl, hK _ _ (HD10.out.1.tail.tail.cells) (fun hH10 => ?_)⟩
    clear hK K hH9
    change wpAnyH _ _ _ _ _ _ _ (Act.put _ (some 80) _) _
    simp only [Act.put, List.setIfInBounds_toArray, List.set_cons_zero, List.set_cons_succ]
    refine wpAnyH_take (i := 19) (v := (.bool false)) rfl (by kernel_rfl) (by kernel_rfl) (by kernel_rfl) (fun _ _ _ h => h) (Or.inl ⟨by kernel_rfl, fun _ _ => by kernel_rfl⟩) hH10 ?r20
    change wpAnyH _ _ _ _ _ _ _ (Act.put _ (some 81) _) _
    simp only [Act.put, List.setIfInBounds_toArray, List.set_cons_zero, List.set_cons_succ]
    refine wpAnyH_take (i := 20) (v := (.bool false)) rfl (by kernel_rfl) (by kernel_rfl) (by kernel_rfl) (fun _ _ _ h => h) (Or.inl ⟨by kernel_rfl, fun _ _ => by kernel_rfl⟩) hH10 ?r21
    change wpAnyH _ _ _ _ _ _ _ (Act.put _ (some 82) _) _
    simp only [Act.put, List.setIfInBounds_toArray, List.set_cons_zero, List.set_cons_succ]
    refine wpAnyH_done (by kernel_rfl) ?_ _
    go_wp2
    go_meet
    exact ⟨rfl, _, rfl, HD10.out.1.tail.tail, HD10.out.2⟩
  case rest =>
    obtain ⟨rfl, Wq5, rfl, hvs, hbl⟩ := hcut
    have HC5 := Lib.hid (And.intro hvs hbl)
    clear hvs hbl HC8
    go_upto_region 11 with fail
    have HC9 := Lib.hid (And.intro (((Vars.nil _).cons (HC5.out.1 4 _ rfl)).cons (HC5.out.1 0 _ rfl)) (below_then HB8.out.1 HC5.out.2))
    have HFz := Lib.hid (And.intro (HB8.out.2.1.step HC5.out.2 HB8.out.2.2) ((HC5.out.1 0 _ rfl).lt rfl))
    clear HC5 HB8
    by_cases h0 : x < 0
    · skip
      obtain ⟨px0, px1⟩ : Two Wq5 r2 (.bool b1) (.slice B1 k1 d1) := (HC9.out.1 1 _ rfl).two rfl
      go_wp2_with fail
      refine (Root_none _ x _ ((HC9.out.1 1 _ rfl).at_) h0).mono ?_
      rintro e wqA ⟨qvA, rfl, ⟨qbA, qAA, qcA, qsA, rfl, qgA, qlA⟩, hbA⟩
      have hvA := (HC9.out.1.step hbA rfl).told qgA qlA
      have hoA := hvA.over rfl (show rq4 ≠ r2 from by have := HN8.out.1; omega)
      have hfA := HFz.out.1.step hbA HFz.out.2
      have hlA := ((below_then HC9.out.2 hbA).setCell (p := ⟨rq4, 0, none⟩) HN8.out.2 (.bool qbA)).setCell (p := ⟨rq4, 1, none⟩) HN8.out.2 (.slice qAA qsA.length qcA)
      obtain ⟨pr0A, pr1A⟩ := (hvA 1 _ rfl).two rfl
      obtain ⟨pf0A, pf1A⟩ := id hfA
      obtain ⟨WqA, hWA⟩ : ∃ W : World, W = ((wqA.setCell ⟨rq4, 0, none⟩ (.bool qbA)).setCell ⟨rq4, 1, none⟩ (.slice qAA qsA.length qcA)) := ⟨_, rfl⟩
      dsimp only at hoA pr0A pr1A
      rw [← hWA] at hoA hlA
      have HCA := Lib.hid (And.intro hoA hlA)
      have HWA := Lib.hid hWA
      clear px0 px1
      clear hvA hoA hfA hlA hWA hbA qgA qlA HC9
      go_upto_region 12 with fail
      rw [← HWA.out]
      clear HWA pr0A pr1A pf0A pf1A
      obtain ⟨px0, px1⟩ : Two WqA r2 (.bool b1) (.slice B1 k1 d1) := (HCA.out.1 1 _ rfl).two rfl
      go_wp2_with fail
      refine (sign_is _ x (-1) 6 _ ((HCA.out.1 1 _ rfl).at_) (by decide) HF.out (Int.sign_eq_neg_one_of_neg h0)).mono ?_
      rintro e wq11 ⟨rfl, hb11⟩
      have HC11 := Lib.hid (And.intro (HCA.out.1.step hb11 rfl) (below_then HCA.out.2 hb11))
      clear px0 px1
      clear hb11 HCA
      go_wp2_with fail
      refine (awake_any _).mono ?_
      rintro e wq12 ⟨rfl, hb12⟩
      have HC12 := Lib.hid (And.intro (HC11.out.1.step hb12 rfl) (below_then HC11.out.2 hb12))
      clear hb12 HC11
      go_wp2
      go_ret
      exact ⟨rfl, HC12.out.2⟩
    · skip
      have h1 : 0 ≤ x := by omega
      obtain ⟨r0, zrr, zn, znn, zg, zh, HY, hg0, hh0⟩ := rootY x HF.out h1
      obtain ⟨sg, hsg⟩ : ∃ g, x.sign = g := ⟨_, rfl⟩
      have hsg0 : 0 ≤ sg := by rw [← hsg]; exact sign_ge h1
      have HG := Lib.hid hsg
      clear hsg h0
      obtain ⟨px0, px1⟩ : Two Wq5 r2 (.bool b1) (.slice B1 k1 d1) := (HC9.out.1 1 _ rfl).two rfl
      go_wp2_with fail
      refine (root_is _ x r0 _ ((HC9.out.1 1 _ rfl).at_) HF.out h1 HY.out.r_).mono ?_
      rintro e wqB ⟨qvB, rfl, ⟨qbB, qAB, qcB, qsB, rfl, qgB, qlB⟩, hbB⟩
      have hvB := (HC9.out.1.step hbB rfl).told qgB qlB
      have hoB := hvB.over rfl (show rq4 ≠ r2 from by have := HN8.out.1; omega)
      have hfB := HFz.out.1.step hbB HFz.out.2
      have hlB := ((below_then HC9.out.2 hbB).setCell (p := ⟨rq4, 0, none⟩) HN8.out.2 (.bool qbB)).setCell (p := ⟨rq4, 1, none⟩) HN8.out.2 (.slice qAB qsB.length qcB)
      obtain ⟨pr0B, pr1B⟩ := (hvB 1 _ rfl).two rfl
      obtain ⟨pf0B, pf1B⟩ := id hfB
      obtain ⟨WqB, hWB⟩ : ∃ W : World, W = ((wqB.setCell ⟨rq4, 0, none⟩ (.bool qbB)).setCell ⟨rq4, 1, none⟩ (.slice qAB qsB.length qcB)) := ⟨_, rfl⟩
      dsimp only at hoB pr0B pr1B
      rw [← hWB] at hoB hlB
      have HCB := Lib.hid (And.intro hoB hlB)
      have HWB := Lib.hid hWB
      clear px0 px1
      clear hvB hoB hfB hlB hWB hbB qgB qlB HC9
      go_upto_region 12 with fail
      rw [← HWB.out]
      clear HWB pr0B pr1B pf0B pf1B
      obtain ⟨px0, px1⟩ : Two WqB r2 (.bool b1) (.slice B1 k1 d1) := (HCB.out.1 1 _ rfl).two rfl
      go_wp2_with fail
      refine (sign_is _ x sg 6 _ ((HCB.out.1 1 _ rfl).at_) (by decide) HF.out HG.out).mono ?_
      rintro e wq13 ⟨rfl, hb13⟩
      have HC13 := Lib.hid (And.intro (HCB.out.1.step hb13 rfl) (below_then HCB.out.2 hb13))
      clear px0 px1
      clear hb13 HCB
      go_upto_region 14 with fail
      go_cut [18] (fun s wx => ∃ (r : Nat) (b : Bool) (A : Option Addr) (n c : Nat) (W : World), W = wx ∧ s = .pointer (some ⟨r, 0, none⟩) ∧ Vars W (⟨true, r, b, A, n, c, zn⟩ :: [⟨true, rq4, qbB, qAB, qsB.length, qcB, (r0 : Int)⟩, ⟨true, r2, b1, B1, k1, d1, x⟩]) ∧ Below w.heap.size w W)
      case first => as_aux_lemma =>
        have HD14 := Lib.hid (And.intro HC13.out.1.drew HC13.out.2.drew)
        refine wp_region_held_drew (S := Cells [⟨true, rq4, qbB, qAB, qsB.length, qcB, (r0 : Int)⟩, ⟨true, r2, b1, B1, k1, d1, x⟩]) (by kernel_rfl) (HD14.out.1.cells) (fun hH0 => ?_)
        refine wpAnyH_take (i := 0) (v := (.agg #[.bool qbB, .slice qAB qsB.length qcB])) rfl (by kernel_rfl) (by kernel_rfl) (by kernel_rfl) (fun _ _ _ h => h) (Or.inl ⟨by kernel_rfl, fun w0 hS0 => run_load (hS0 0 _ rfl rfl) (.tmp 16) (by kernel_rfl) (by kernel_rfl)⟩) hH0 ?r22
        change wpAnyH _ _ _ _ _ _ _ (Act.put _ (some 96) _) _
        simp only [Act.put, List.setIfInBounds_toArray, List.set_cons_zero, List.set_cons_succ]
        refine wpAnyH_ready (rs := [1, 3]) (by kernel_rfl) (by simp) ?_
        refine AllReadyH.cons rfl (fun K hK0 => ?d23) (AllReadyH.cons rfl (fun K hK0 => ?d24) (AllReadyH.nil))
        case d23 =>
          have hK := hK0.out
          clear hK0
          rw [if_pos (by kernel_rfl)]
          refine wp_go_call 17 #[(Value.int IntKind.i64 1)] (fun _ => by kernel_rfl) ((new_is 1 _ (by decide) (by decide)).mono ?_)
          rintro e wq15 ⟨qv15, rfl, ⟨qb15, qA15, qc15, qs15, rfl, qg15, ql15⟩, hb15⟩
          have HD15 := Lib.hid (And.intro ((HD14.out.1.step hb15 rfl).told qg15 ql15) (below_then HD14.out.2 hb15))
          refine ⟨(.agg #[.bool qb15, .slice qA15 qs15.length qc15]), rfl, hK _ _ (HD15.out.1.tail.cells) (fun hH15 => ?_)⟩
          clear hK K hH0
          change wpAnyH _ _ _ _ _ _ _ (Act.put _ (some 97) _) _
          simp only [Act.put, List.setIfInBounds_toArray, List.set_cons_zero, List.set_cons_succ]
          refine wpAnyH_ready (rs := [2, 3]) (by kernel_rfl) (by simp) ?_
          refine AllReadyH.cons rfl (fun K hK0 => ?d25) (AllReadyH.cons rfl (fun K hK0 => ?d26) (AllReadyH.nil))
          case d25 =>
            have hK := hK0.out
            clear hK0
            rw [if_pos (by kernel_rfl)]
            refine wp_go_call 38 #[(.agg #[.bool qbB, .slice qAB qsB.length qcB]), (.agg #[.bool qb15, .slice qA15 qs15.length qc15])] (fun _ => by kernel_rfl) ((add_is _ _ (r0 : Int) 1 zn 6 _ ((HD15.out.1 1 _ rfl).at_) ((HD15.out.1 0 _ rfl).at_) (by decide) HY.out.fr (by unfold Fits; decide) HY.out.n_).mono ?_)
            rintro e wq16 ⟨qv16, rfl, ⟨qb16, qA16, qc16, qs16, rfl, qg16, ql16⟩, hb16⟩
            have HD16 := Lib.hid (And.intro ((HD15.out.1.step hb16 rfl).told qg16 ql16) (below_then HD15.out.2 hb16))
            refine ⟨(.agg #[.bool qb16, .slice qA16 qs16.length qc16]), rfl, hK _ _ (HD16.out.1.tail.tail.cells) (fun hH16 => ?_)⟩
            clear hK K hH15
            change wpAnyH _ _ _ _ _ _ _ (Act.put _ (some 98) _) _
            simp only [Act.put, List.setIfInBounds_toArray, List.set_cons_zero, List.set_cons_succ]
            refine wpAnyH_ready (rs := [3]) (by kernel_rfl) (by simp) ?_
            refine AllReadyH.cons rfl (fun K hK0 => ?d27) (AllReadyH.nil)
            have hK := hK0.out
            clear hK0
            rw [if_pos (by kernel_rfl)]
            refine wp_go_val (.pointer (some ⟨(wq16).heap.size, 0, none⟩)) (run_alloc _ _ _ (by kernel_rfl)) ?_
            have HD17 := Lib.hid (And.intro (HD16.out.1.alloc (.cells #[.bool false, .slice none 0 0] 28)) (HD16.out.2.alloc HD16.out.2.size (.cells #[.bool false, .slice none 0 0] 28)))
            have hr17 := Res.new (wq16) 28
            have hr17_lt : (wq16).heap.size < ((wq16).alloc (.cells #[.bool false, .slice none 0 0] 28)).heap.size := by rw [size_alloc]; omega
            refine hK _ _ (HD17.out.1.tail.tail.cells) (fun hH17 => ?_)
            clear hK K hH16
            change wpAnyH _ _ _ _ _ _ _ (Act.put _ (some 18) _) _
            simp only [Act.put, List.setIfInBounds_toArray, List.set_cons_zero, List.set_cons_succ]
            refine wpAnyH_ready (rs := [4]) (by kernel_rfl) (by simp) ?_
            refine AllReadyH.cons rfl (fun K hK0 => ?d28) (AllReadyH.nil)
            have hK := hK0.out
            clear hK0
            rw [if_pos (by kernel_rfl)]
            refine wp_go_skip (run_store _ _ (wq16) qb16 qA16 qs16.length qc16 (.tmp 18) (.tmp 98) (by kernel_rfl) (by kernel_rfl) (by kernel_rfl)) ?_
            have HD18 := Lib.hid (And.intro ((HD16.out.1.skip).laid 28) (HD16.out.2.alloc HD16.out.2.size (.cells #[.bool qb16, .slice qA16 qs16.length qc16] 28)))
            refine hK _ _ (HD18.out.1.tail.cells) (fun hH18 => ?_)
            clear hK K hH17
            change wpAnyH _ _ _ _ _ _ _ (Act.put _ none _) _
            simp only [Act.put]
            refine wpAnyH_done (by kernel_rfl) ?_ _
            go_wp2
            go_meet
            exact ⟨_, _, _, _, _, _, rfl, rfl, HD18.out.1, HD18.out.2⟩
          case d26 =>
            have hK := hK0.out
            clear hK0
            rw [if_pos (by kernel_rfl)]
            refine wp_go_val (.pointer (some ⟨(wq15).heap.size, 0, none⟩)) (run_alloc _ _ _ (by kernel_rfl)) ?_
            have HD19 := Lib.hid (And.intro (HD15.out.1.alloc (.cells #[.bool false, .slice none 0 0] 28)) (HD15.out.2.alloc HD15.out.2.size (.cells #[.bool false, .slice none 0 0] 28)))
            have hr19 := Res.new (wq15) 28
            have hr19_lt : (wq15).heap.size < ((wq15).alloc (.cells #[.bool false, .slice none 0 0] 28)).heap.size := by rw [size_alloc]; omega
            refine hK _ _ (HD19.out.1.tail.cells) (fun hH19 => ?_)
            clear hK K hH15
            change wpAnyH _ _ _ _ _ _ _ (Act.put _ (some 18) _) _
            simp only [Act.put, List.setIfInBounds_toArray, List.set_cons_zero, List.set_cons_succ]
            refine wpAnyH_ready (rs := [2]) (by kernel_rfl) (by simp) ?_
            refine AllReadyH.cons rfl (fun K hK0 => ?d29) (AllReadyH.nil)
            have hK := hK0.out
            clear hK0
            rw [if_pos (by kernel_rfl)]
            refine wp_go_call 38 #[(.agg #[.bool qbB, .slice qAB qsB.length qcB]), (.agg #[.bool qb15, .slice qA15 qs15.length qc15])] (fun _ => by kernel_rfl) ((add_is _ _ (r0 : Int) 1 zn 6 _ ((HD19.out.1 1 _ rfl).at_) ((HD19.out.1 0 _ rfl).at_) (by decide) HY.out.fr (by unfold Fits; decide) HY.out.n_).mono ?_)
            rintro e wq20 ⟨qv20, rfl, ⟨qb20, qA20, qc20, qs20, rfl, qg20, ql20⟩, hb20⟩
            have HD20 := Lib.hid (And.intro ((HD19.out.1.step hb20 rfl).told qg20 ql20) (below_then HD19.out.2 hb20))
            have hr20_3 := hr19.step hb20 rfl hr19_lt
            have hr20_3_lt := Nat.lt_of_lt_of_le hr19_lt hb20.size
            refine ⟨(.agg #[.bool qb20, .slice qA20 qs20.length qc20]), rfl, hK _ _ (HD20.out.1.tail.tail.cells) (fun hH20 => ?_)⟩
            clear hK K hH19
            change wpAnyH _ _ _ _ _ _ _ (Act.put _ (some 98) _) _
            simp only [Act.put, List.setIfInBounds_toArray, List.set_cons_zero, List.set_cons_succ]
            refine wpAnyH_ready (rs := [4]) (by kernel_rfl) (by simp) ?_
            refine AllReadyH.cons rfl (fun K hK0 => ?d30) (AllReadyH.nil)
            have hK := hK0.out
            clear hK0
            rw [if_pos (by kernel_rfl)]
            refine wp_go_skip (run_store2 hr20_3 qb20 qA20 qs20.length qc20 (.tmp 18) (.tmp 98) (by kernel_rfl) (by kernel_rfl) (by kernel_rfl)) ?_
            have hv21 := Vars.put (HD15.out.1.tail) (HD20.out.1.skip) hr20_3 (Nat.le_refl _) hr20_3_lt
            have HD21 := Lib.hid (And.intro hv21 ((HD20.out.2.setCell (p := ⟨(wq15).heap.size, 0, none⟩) HD15.out.2.size (.bool qb20)).setCell (p := ⟨(wq15).heap.size, 1, none⟩) HD15.out.2.size (.slice qA20 qs20.length qc20)))
            refine hK _ _ (HD21.out.1.tail.cells) (fun hH21 => ?_)
            clear hK K hH20
            change wpAnyH _ _ _ _ _ _ _ (Act.put _ none _) _
            simp only [Act.put]
            refine wpAnyH_done (by kernel_rfl) ?_ _
            go_wp2
            go_meet
            exact ⟨_, _, _, _, _, _, rfl, rfl, HD21.out.1, HD21.out.2⟩
        case d24 =>
          have hK := hK0.out
          clear hK0
          rw [if_pos (by kernel_rfl)]
          refine wp_go_val (.pointer (some ⟨(wq13.drew).heap.size, 0, none⟩)) (run_alloc _ _ _ (by kernel_rfl)) ?_
          have HD22 := Lib.hid (And.intro (HD14.out.1.alloc (.cells #[.bool false, .slice none 0 0] 28)) (HD14.out.2.alloc HD14.out.2.size (.cells #[.bool false, .slice none 0 0] 28)))
          have hr22 := Res.new (wq13.drew) 28
          have hr22_lt : (wq13.drew).heap.size < ((wq13.drew).alloc (.cells #[.bool false, .slice none 0 0] 28)).heap.size := by rw [size_alloc]; omega
          refine hK _ _ (HD22.out.1.cells) (fun hH22 => ?_)
          clear hK K hH0
          change wpAnyH _ _ _ _ _ _ _ (Act.put _ (some 18) _) _
          simp only [Act.put, List.setIfInBounds_toArray, List.set_cons_zero, List.set_cons_succ]
          refine wpAnyH_ready (rs := [1]) (by kernel_rfl) (by simp) ?_
          refine AllReadyH.cons rfl (fun K hK0 => ?d31) (AllReadyH.nil)
          have hK := hK0.out
          clear hK0
          rw [if_pos (by kernel_rfl)]
          refine wp_go_call 17 #[(Value.int IntKind.i64 1)] (fun _ => by kernel_rfl) ((new_is 1 _ (by decide) (by decide)).mono ?_)
          rintro e wq23 ⟨qv23, rfl, ⟨qb23, qA23, qc23, qs23, rfl, qg23, ql23⟩, hb23⟩
          have HD23 := Lib.hid (And.intro ((HD22.out.1.step hb23 rfl).told qg23 ql23) (below_then HD22.out.2 hb23))
          have hr23_3 := hr22.step hb23 rfl hr22_lt
          have hr23_3_lt := Nat.lt_of_lt_of_le hr22_lt hb23.size
          refine ⟨(.agg #[.bool qb23, .slice qA23 qs23.length qc23]), rfl, hK _ _ (HD23.out.1.tail.cells) (fun hH23 => ?_)⟩
          clear hK K hH22
          change wpAnyH _ _ _ _ _ _ _ (Act.put _ (some 97) _) _
          simp only [Act.put, List.setIfInBounds_toArray, List.set_cons_zero, List.set_cons_succ]
          refine wpAnyH_ready (rs := [2]) (by kernel_rfl) (by simp) ?_
          refine AllReadyH.cons rfl (fun K hK0 => ?d32) (AllReadyH.nil)
          have hK := hK0.out
          clear hK0
          rw [if_pos (by kernel_rfl)]
          refine wp_go_call 38 #[(.agg #[.bool qbB, .slice qAB qsB.length qcB]), (.agg #[.bool qb23, .slice qA23 qs23.length qc23])] (fun _ => by kernel_rfl) ((add_is _ _ (r0 : Int) 1 zn 6 _ ((HD23.out.1 1 _ rfl).at_) ((HD23.out.1 0 _ rfl).at_) (by decide) HY.out.fr (by unfold Fits; decide) HY.out.n_).mono ?_)
          rintro e wq24 ⟨qv24, rfl, ⟨qb24, qA24, qc24, qs24, rfl, qg24, ql24⟩, hb24⟩
          have HD24 := Lib.hid (And.intro ((HD23.out.1.step hb24 rfl).told qg24 ql24) (below_then HD23.out.2 hb24))
          have hr24_3 := hr23_3.step hb24 rfl hr23_3_lt
          have hr24_3_lt := Nat.lt_of_lt_of_le hr23_3_lt hb24.size
          refine ⟨(.agg #[.bool qb24, .slice qA24 qs24.length qc24]), rfl, hK _ _ (HD24.out.1.tail.tail.cells) (fun hH24 => ?_)⟩
          clear hK K hH23
          change wpAnyH _ _ _ _ _ _ _ (Act.put _ (some 98) _) _
          simp only [Act.put, List.setIfInBounds_toArray, List.set_cons_zero, List.set_cons_succ]
          refine wpAnyH_ready (rs := [4]) (by kernel_rfl) (by simp) ?_
          refine AllReadyH.cons rfl (fun K hK0 => ?d33) (AllReadyH.nil)
          have hK := hK0.out
          clear hK0
          rw [if_pos (by kernel_rfl)]
          refine wp_go_skip (run_store2 hr24_3 qb24 qA24 qs24.length qc24 (.tmp 18) (.tmp 98) (by kernel_rfl) (by kernel_rfl) (by kernel_rfl)) ?_
          have hv25 := Vars.put (HD14.out.1) (HD24.out.1.skip) hr24_3 (Nat.le_refl _) hr24_3_lt
          have HD25 := Lib.hid (And.intro hv25 ((HD24.out.2.setCell (p := ⟨(wq13.drew).heap.size, 0, none⟩) HD14.out.2.size (.bool qb24)).setCell (p := ⟨(wq13.drew).heap.size, 1, none⟩) HD14.out.2.size (.slice qA24 qs24.length qc24)))
          refine hK _ _ (HD25.out.1.tail.cells) (fun hH25 => ?_)
          clear hK K hH24
          change wpAnyH _ _ _ _ _ _ _ (Act.put _ none _) _
          simp only [Act.put]
          refine wpAnyH_done (by kernel_rfl) ?_ _
          go_wp2
          go_meet
          exact ⟨_, _, _, _, _, _, rfl, rfl, HD25.out.1, HD25.out.2⟩
      case rest =>
        obtain ⟨ro, bo, Ao, no, co, Wo, rfl, rfl, hvs, hbl⟩ := hcut
        have HCo := Lib.hid (And.intro hvs hbl)
        clear hvs hbl HC13
        go_upto_region 15 with fail
        have HD26 := Lib.hid (And.intro HCo.out.1.drew HCo.out.2.drew)
        refine wp_region_held_drew (S := Cells [⟨true, ro, bo, Ao, no, co, zn⟩, ⟨true, rq4, qbB, qAB, qsB.length, qcB, (r0 : Int)⟩, ⟨true, r2, b1, B1, k1, d1, x⟩]) (by kernel_rfl) (HD26.out.1.cells) (fun hH0 => ?_)
        refine wpAnyH_take (i := 0) (v := (.int .i64 0)) rfl (by kernel_rfl) (by kernel_rfl) (by kernel_rfl) (fun _ _ _ h => h) (Or.inl ⟨by kernel_rfl, fun _ _ => by kernel_rfl⟩) hH0 ?r34
        change wpAnyH _ _ _ _ _ _ _ (Act.put _ (some 99) _) _
        simp only [Act.put, List.setIfInBounds_toArray, List.set_cons_zero, List.set_cons_succ]
        refine wpAnyH_take (i := 1) (v := (.bool true)) rfl (by kernel_rfl) (by kernel_rfl) (by kernel_rfl) (fun _ _ _ h => h) (Or.inl ⟨by kernel_rfl, fun _ _ => by kernel_rfl⟩) hH0 ?r35
        change wpAnyH _ _ _ _ _ _ _ (Act.put _ (some 100) _) _
        simp only [Act.put, List.setIfInBounds_toArray, List.set_cons_zero, List.set_cons_succ]
        refine wpAnyH_take (i := 2) (v := (.bool true)) rfl (by kernel_rfl) (by kernel_rfl) (by kernel_rfl) (fun _ _ _ h => h) (Or.inl ⟨by kernel_rfl, fun _ _ => by kernel_rfl⟩) hH0 ?r36
        change wpAnyH _ _ _ _ _ _ _ (Act.put _ (some 101) _) _
        simp only [Act.put, List.setIfInBounds_toArray, List.set_cons_zero, List.set_cons_succ]
        refine wpAnyH_take (i := 3) (v := (.agg #[.bool qbB, .slice qAB qsB.length qcB])) rfl (by kernel_rfl) (by kernel_rfl) (by kernel_rfl) (fun _ _ _ h => h) (Or.inl ⟨by kernel_rfl, fun w0 hS0 => run_load (hS0 1 _ rfl rfl) (.tmp 16) (by kernel_rfl) (by kernel_rfl)⟩) hH0 ?r37
        change wpAnyH _ _ _ _ _ _ _ (Act.put _ (some 102) _) _
        simp only [Act.put, List.setIfInBounds_toArray, List.set_cons_zero, List.set_cons_succ]
        refine wpAnyH_take (i := 4) (v := (.agg #[.bool qbB, .slice qAB qsB.length qcB])) rfl (by kernel_rfl) (by kernel_rfl) (by kernel_rfl) (fun _ _ _ h => h) (Or.inl ⟨by kernel_rfl, fun w0 hS0 => run_load (hS0 1 _ rfl rfl) (.tmp 16) (by kernel_rfl) (by kernel_rfl)⟩) hH0 ?r38
        change wpAnyH _ _ _ _ _ _ _ (Act.put _ (some 103) _) _
        simp only [Act.put, List.setIfInBounds_toArray, List.set_cons_zero, List.set_cons_succ]
        refine wpAnyH_take (i := 6) (v := (.agg #[.bool b1, .slice B1 k1 d1])) rfl (by kernel_rfl) (by kernel_rfl) (by kernel_rfl) (fun _ _ _ h => h) (Or.inl ⟨by kernel_rfl, fun w0 hS0 => run_load (hS0 2 _ rfl rfl) (.tmp 7) (by kernel_rfl) (by kernel_rfl)⟩) hH0 ?r39
        change wpAnyH _ _ _ _ _ _ _ (Act.put _ (some 105) _) _
        simp only [Act.put, List.setIfInBounds_toArray, List.set_cons_zero, List.set_cons_succ]
        refine wpAnyH_ready (rs := [5]) (by kernel_rfl) (by simp) ?_
        refine AllReadyH.cons rfl (fun K hK0 => ?d40) (AllReadyH.nil)
        have hK := hK0.out
        clear hK0
        rw [if_pos (by kernel_rfl)]
        refine wp_go_call 42 #[(.agg #[.bool qbB, .slice qAB qsB.length qcB]), (.agg #[.bool qbB, .slice qAB qsB.length qcB])] (fun _ => by kernel_rfl) ((mul_is _ _ (r0 : Int) (r0 : Int) zrr 6 6 _ ((HD26.out.1 1 _ rfl).at_) ((HD26.out.1 1 _ rfl).at_) (by decide) HY.out.fr (by decide) HY.out.fr HY.out.rr_).mono ?_)
        rintro e wq27 ⟨qv27, rfl, ⟨qb27, qA27, qc27, qs27, rfl, qg27, ql27⟩, hb27⟩
        have HD27 := Lib.hid (And.intro ((HD26.out.1.step hb27 rfl).told qg27 ql27) (below_then HD26.out.2 hb27))
        refine ⟨(.agg #[.bool qb27, .slice qA27 qs27.length qc27]), rfl, hK _ _ (HD27.out.1.tail.cells) (fun hH27 => ?_)⟩
        clear hK K hH0
        change wpAnyH _ _ _ _ _ _ _ (Act.put _ (some 104) _) _
        simp only [Act.put, List.setIfInBounds_toArray, List.set_cons_zero, List.set_cons_succ]
        refine wpAnyH_ready (rs := [7]) (by kernel_rfl) (by simp) ?_
        refine AllReadyH.cons rfl (fun K hK0 => ?d41) (AllReadyH.nil)
        have hK := hK0.out
        clear hK0
        rw [if_pos (by kernel_rfl)]
        refine wp_go_call 32 #[(.agg #[.bool qb27, .slice qA27 qs27.length qc27]), (.agg #[.bool b1, .slice B1 k1 d1])] (fun _ => by kernel_rfl) ((cmp_is _ _ zrr x zg 14 _ ((HD27.out.1 0 _ rfl).at_) ((HD27.out.1 3 _ rfl).at_) (by decide) HY.out.frr (HF.out.up (by decide)) HY.out.g_).mono ?_)
        rintro e wq28 ⟨rfl, hb28⟩
        have HD28 := Lib.hid (And.intro (HD27.out.1.step hb28 rfl) (below_then HD27.out.2 hb28))
        refine ⟨(.int .i64 zg), rfl, hK _ _ (HD28.out.1.tail.cells) (fun hH28 => ?_)⟩
        clear hK K hH27
        change wpAnyH _ _ _ _ _ _ _ (Act.put _ (some 106) _) _
        simp only [Act.put, List.setIfInBounds_toArray, List.set_cons_zero, List.set_cons_succ]
        refine wpAnyH_take (i := 8) (v := (.bool true)) rfl (by kernel_rfl) (by kernel_rfl) (by kernel_rfl) (fun _ _ _ h => h) (Or.inl ⟨by kernel_rfl, fun w0 hS0 => by go_simp⟩) hH28 ?r42
        change wpAnyH _ _ _ _ _ _ _ (Act.put _ (some 107) _) _
        simp only [Act.put, List.setIfInBounds_toArray, List.set_cons_zero, List.set_cons_succ]
        refine wpAnyH_take (i := 9) (v := (.bool true)) rfl (by kernel_rfl) (by kernel_rfl) (by kernel_rfl) (fun _ _ _ h => h) (Or.inl ⟨by kernel_rfl, fun _ _ => by kernel_rfl⟩) hH28 ?r43
        change wpAnyH _ _ _ _ _ _ _ (Act.put _ (some 108) _) _
        simp only [Act.put, List.setIfInBounds_toArray, List.set_cons_zero, List.set_cons_succ]
        refine wpAnyH_take (i := 10) (v := (.bool true)) rfl (by kernel_rfl) (by kernel_rfl) (by kernel_rfl) (fun _ _ _ h => h) (Or.inl ⟨by kernel_rfl, fun _ _ => by kernel_rfl⟩) hH28 ?r44
        change wpAnyH _ _ _ _ _ _ _ (Act.put _ (some 109) _) _
        simp only [Act.put, List.setIfInBounds_toArray, List.set_cons_zero, List.set_cons_succ]
        refine wpAnyH_take (i := 11) (v := (.agg #[.bool b1, .slice B1 k1 d1])) rfl (by kernel_rfl) (by kernel_rfl) (by kernel_rfl) (fun _ _ _ h => h) (Or.inl ⟨by kernel_rfl, fun w0 hS0 => run_load (hS0 2 _ rfl rfl) (.tmp 7) (by kernel_rfl) (by kernel_rfl)⟩) hH28 ?r45
        change wpAnyH _ _ _ _ _ _ _ (Act.put _ (some 110) _) _
        simp only [Act.put, List.setIfInBounds_toArray, List.set_cons_zero, List.set_cons_succ]
        refine wpAnyH_take (i := 12) (v := (.agg #[.bool bo, .slice Ao no co])) rfl (by kernel_rfl) (by kernel_rfl) (by kernel_rfl) (fun _ _ _ h => h) (Or.inl ⟨by kernel_rfl, fun w0 hS0 => run_load (hS0 0 _ rfl rfl) (.tmp 18) (by kernel_rfl) (by kernel_rfl)⟩) hH28 ?r46
        change wpAnyH _ _ _ _ _ _ _ (Act.put _ (some 111) _) _
        simp only [Act.put, List.setIfInBounds_toArray, List.set_cons_zero, List.set_cons_succ]
        refine wpAnyH_take (i := 13) (v := (.agg #[.bool bo, .slice Ao no co])) rfl (by kernel_rfl) (by kernel_rfl) (by kernel_rfl) (fun _ _ _ h => h) (Or.inl ⟨by kernel_rfl, fun w0 hS0 => run_load (hS0 0 _ rfl rfl) (.tmp 18) (by kernel_rfl) (by kernel_rfl)⟩) hH28 ?r47
        change wpAnyH _ _ _ _ _ _ _ (Act.put _ (some 112) _) _
        simp only [Act.put, List.setIfInBounds_toArray, List.set_cons_zero, List.set_cons_succ]
        refine wpAnyH_ready (rs := [14]) (by kernel_rfl) (by simp) ?_
        refine AllReadyH.cons rfl (fun K hK0 => ?d48) (AllReadyH.nil)
        have hK := hK0.out
        clear hK0
        rw [if_pos (by kernel_rfl)]
        refine wp_go_call 42 #[(.agg #[.bool bo, .slice Ao no co]), (.agg #[.bool bo, .slice Ao no co])] (fun _ => by kernel_rfl) ((mul_is _ _ zn zn znn 7 7 _ ((HD28.out.1 1 _ rfl).at_) ((HD28.out.1 1 _ rfl).at_) (by decide) HY.out.fn (by decide) HY.out.fn HY.out.nn_).mono ?_)
        rintro e wq29 ⟨qv29, rfl, ⟨qb29, qA29, qc29, qs29, rfl, qg29, ql29⟩, hb29⟩
        have HD29 := Lib.hid (And.intro ((HD28.out.1.step hb29 rfl).told qg29 ql29) (below_then HD28.out.2 hb29))
        refine ⟨(.agg #[.bool qb29, .slice qA29 qs29.length qc29]), rfl, hK _ _ (HD29.out.1.tail.tail.cells) (fun hH29 => ?_)⟩
        clear hK K hH28
        change wpAnyH _ _ _ _ _ _ _ (Act.put _ (some 113) _) _
        simp only [Act.put, List.setIfInBounds_toArray, List.set_cons_zero, List.set_cons_succ]
        refine wpAnyH_ready (rs := [15]) (by kernel_rfl) (by simp) ?_
        refine AllReadyH.cons rfl (fun K hK0 => ?d49) (AllReadyH.nil)
        have hK := hK0.out
        clear hK0
        rw [if_pos (by kernel_rfl)]
        refine wp_go_call 32 #[(.agg #[.bool b1, .slice B1 k1 d1]), (.agg #[.bool qb29, .slice qA29 qs29.length qc29])] (fun _ => by kernel_rfl) ((cmp_is _ _ x znn zh 14 _ ((HD29.out.1 4 _ rfl).at_) ((HD29.out.1 0 _ rfl).at_) (by decide) (HF.out.up (by decide)) HY.out.fnn HY.out.h_).mono ?_)
        rintro e wq30 ⟨rfl, hb30⟩
        have HD30 := Lib.hid (And.intro (HD29.out.1.step hb30 rfl) (below_then HD29.out.2 hb30))
        refine ⟨(.int .i64 zh), rfl, hK _ _ (HD30.out.1.tail.tail.cells) (fun hH30 => ?_)⟩
        clear hK K hH29
        change wpAnyH _ _ _ _ _ _ _ (Act.put _ (some 114) _) _
        simp only [Act.put, List.setIfInBounds_toArray, List.set_cons_zero, List.set_cons_succ]
        refine wpAnyH_take (i := 16) (v := (.bool true)) rfl (by kernel_rfl) (by kernel_rfl) (by kernel_rfl) (fun _ _ _ h => h) (Or.inl ⟨by kernel_rfl, fun w0 hS0 => by go_simp⟩) hH30 ?r50
        change wpAnyH _ _ _ _ _ _ _ (Act.put _ (some 115) _) _
        simp only [Act.put, List.setIfInBounds_toArray, List.set_cons_zero, List.set_cons_succ]
        refine wpAnyH_take (i := 17) (v := (.bool true)) rfl (by kernel_rfl) (by kernel_rfl) (by kernel_rfl) (fun _ _ _ h => h) (Or.inl ⟨by kernel_rfl, fun _ _ => by kernel_rfl⟩) hH30 ?r51
        change wpAnyH _ _ _ _ _ _ _ (Act.put _ (some 116) _) _
        simp only [Act.put, List.setIfInBounds_toArray, List.set_cons_zero, List.set_cons_succ]
        refine wpAnyH_take (i := 18) (v := (.bool true)) rfl (by kernel_rfl) (by kernel_rfl) (by kernel_rfl) (fun _ _ _ h => h) (Or.inl ⟨by kernel_rfl, fun _ _ => by kernel_rfl⟩) hH30 ?r52
        change wpAnyH _ _ _ _ _ _ _ (Act.put _ (some 117) _) _
        simp only [Act.put, List.setIfInBounds_toArray, List.set_cons_zero, List.set_cons_succ]
        refine wpAnyH_ready (rs := [19]) (by kernel_rfl) (by simp) ?_
        refine AllReadyH.cons rfl (fun K hK0 => ?d53) (AllReadyH.nil)
        have hK := hK0.out
        clear hK0
        rw [if_pos (by kernel_rfl)]
        refine wp_go_call 15 #[] (fun _ => by kernel_rfl) ((awake_any _).mono ?_)
        rintro e wq31 ⟨rfl, hb31⟩
        have HD31 := Lib.hid (And.intro (HD30.out.1.step hb31 rfl) (below_then HD30.out.2 hb31))
        refine ⟨(.bool true), rfl, hK _ _ (HD31.out.1.tail.tail.cells) (fun hH31 => ?_)⟩
        clear hK K hH30
        change wpAnyH _ _ _ _ _ _ _ (Act.put _ (some 118) _) _
        simp only [Act.put, List.setIfInBounds_toArray, List.set_cons_zero, List.set_cons_succ]
        refine wpAnyH_take (i := 20) (v := (.bool true)) rfl (by kernel_rfl) (by kernel_rfl) (by kernel_rfl) (fun _ _ _ h => h) (Or.inl ⟨by kernel_rfl, fun _ _ => by kernel_rfl⟩) hH31 ?r54
        change wpAnyH _ _ _ _ _ _ _ (Act.put _ (some 119) _) _
        simp only [Act.put, List.setIfInBounds_toArray, List.set_cons_zero, List.set_cons_succ]
        refine wpAnyH_take (i := 21) (v := (.bool true)) rfl (by kernel_rfl) (by kernel_rfl) (by kernel_rfl) (fun _ _ _ h => h) (Or.inl ⟨by kernel_rfl, fun _ _ => by kernel_rfl⟩) hH31 ?r55
        change wpAnyH _ _ _ _ _ _ _ (Act.put _ (some 6) _) _
        simp only [Act.put, List.setIfInBounds_toArray, List.set_cons_zero, List.set_cons_succ]
        refine wpAnyH_done (by kernel_rfl) ?_ _
        go_wp2
        go_ret
        exact ⟨rfl, HD31.out.2⟩
end Go.Proofs.Ytagmdeabneapaaa
