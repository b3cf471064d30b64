/- The law IntegerPatterns: it answers true. -/
import Derived.Test.YtagmdeabneapaaaLawA
import Derived.Test.YtagmdeabneapaaaAwake
namespace Go.Proofs.Ytagmdeabneapaaa
open Go.RowKit
set_option linter.unusedSimpArgs false

theorem row2 (w : World) (s1 s2 : Bool) (A1 A2 : Option Addr) (n1 n2 c1 c2 : Nat) (t : TypeId) :
    NRow (w.alloc (.cells #[.bool s1, .slice A1 n1 c1, .bool s2, .slice A2 n2 c2] t)) w.heap.size [⟨s1, A1, n1, c1⟩, ⟨s2, A2, n2, c2⟩] :=
  ⟨by simp, fun i x hi => by
    match i, hi with
    | 0, hi => simp at hi; subst hi; constructor <;> go_simp
    | 1, hi => simp at hi; subst hi; constructor <;> go_simp⟩
/-- Two numbers as plain data in their variables. -/
def boxed2 (w : World) (a b c d : Value) : World := (w.alloc (.cells #[a, b] 24)).alloc (.cells #[c, d] 24)
theorem boxed2_bel (w : World) (a b c d : Value) : Below w.heap.size w (boxed2 w a b c d) := ((Below.refl _ _).alloc (Nat.le_refl _) _).alloc (by simp) _
theorem boxed2_size (w : World) (a b c d : Value) : (boxed2 w a b c d).heap.size = w.heap.size + 2 := by unfold boxed2; simp
theorem boxed2_x (w : World) (a b c d : Value) : Two (boxed2 w a b c d) w.heap.size a b := (Two.new w a b _).alloc (by simp) _
theorem boxed2_y (w : World) (a b c d : Value) : Two (boxed2 w a b c d) (w.heap.size + 1) c d := by
  have h := Two.new (w.alloc (.cells #[a, b] 24)) c d 24
  rw [size_alloc] at h
  exact h
/-- Two integers of at most m limbs in two variables. -/
def XyAt (w : World) (m : Nat) (s8 s9 : Value) (wx : World) : Prop :=
  ∃ (r8 r9 : Nat) (b1 : Bool) (B1 : Option Addr) (k1 d1 : Nat) (b2 : Bool) (B2 : Option Addr) (k2 d2 : Nat) (x y : Int) (W : World), W = wx ∧ s8 = .pointer (some ⟨r8, 0, none⟩) ∧ s9 = .pointer (some ⟨r9, 0, none⟩) ∧
    Vars W [⟨true, r9, b2, B2, k2, d2, y⟩, ⟨true, r8, b1, B1, k1, d1, x⟩] ∧ Below w.heap.size w W ∧ Fits x m ∧ Fits y m
/-- Two new boxes. -/
structure Boxes2 (w W : World) (a1 a2 b1 b2 : Value) : Prop where
  a : Two W w.heap.size a1 a2
  b : Two W (w.heap.size + 1) b1 b2
  below : Below w.heap.size w W
  size : w.heap.size + 1 < W.heap.size
theorem boxes2 (w : World) (a1 a2 b1 b2 : Value) (t : TypeId) : Boxes2 w ((w.alloc (.cells #[a1, a2] t)).alloc (.cells #[b1, b2] t)).drew a1 a2 b1 b2 := by
  have ha := (Two.new w a1 a2 t).alloc (by simp) (.cells #[b1, b2] t)
  have hb := Two.new (w.alloc (.cells #[a1, a2] t)) b1 b2 t
  rw [size_alloc] at hb
  have hl := (((Below.refl _ _).alloc (Nat.le_refl _) (.cells #[a1, a2] t)).alloc (by simp) (.cells #[b1, b2] t) : Below w.heap.size w _)
  exact ⟨ha, hb, hl.drew, by simp⟩
theorem xy_of (w w2 W : World) (m : Nat) (b1 : Bool) (B1 : Option Addr) (k1 d1 : Nat) (b2 : Bool) (B2 : Option Addr) (k2 d2 : Nat) (x y : Int) (r8 r9 : Nat) (hX : IntAt w2 (.agg #[.bool b1, .slice B1 k1 d1]) x) (hY : IntAt w2 (.agg #[.bool b2, .slice B2 k2 d2]) y) (hb : Below w.heap.size w w2)
    (hf : Fits x m ∧ Fits y m) (h8 : Two W r8 (.bool b1) (.slice B1 k1 d1)) (h9 : Two W r9 (.bool b2) (.slice B2 k2 d2)) (hl : Below w2.heap.size w2 W) (l8 : r8 < W.heap.size) (l9 : r9 < W.heap.size) :
    XyAt w m (.pointer (some ⟨r8, 0, none⟩)) (.pointer (some ⟨r9, 0, none⟩)) W :=
  ⟨r8, r9, b1, B1, k1, d1, b2, B2, k2, d2, x, y, _, rfl, rfl, rfl, ((Vars.nil W).cons ⟨fun _ => l8, fun _ => h8, hX.step hl rfl⟩).cons ⟨fun _ => l9, fun _ => h9, hY.step hl rfl⟩, below_then hb hl, hf⟩
theorem fits_of6 {xs : List Nat} {s : Bool} {m : Nat} (ho : Lm.Ok B32 xs) (hl : xs.length ≤ m) : Fits (ofSign s (Lm.val B32 xs)) m := by
  have h := Nat.lt_of_lt_of_le (Lm.val_lt ho) (Nat.pow_le_pow_right B32_pos hl)
  unfold Fits ofSign
  cases s <;> simp <;> exact h

theorem fits_bl {x : Int} {m : Nat} (h : Fits x m) : bl (magOf x) ≤ 32 * m := by
  rw [bl_le, ← B32_pow]
  exact Nat.lt_of_le_of_lt (mag_le x) h
theorem fits_two {z : Int} {k m : Nat} (h : z.natAbs ≤ 2 ^ k) (hk : k < 32 * m) : Fits z m := pow_b32 h hk
/-- The first numbers of the law. -/
structure PatZ1 (x y zx za zo lx cx : Int) : Prop where
  xor_ : booleZ 6 x y = zx
  and_ : booleZ 8 x y = za
  opp : -1 - x = zo
  fx : Fits zx 7
  fa : Fits za 7
  fo : Fits zo 7
  sum_ : zx + za + za = x + y
  lo : (bl (magOf zo) : Int) = lx
  lx_ : (bl (magOf x) : Int) = lx
  co : (ones (magOf zo) : Int) = cx
  cx_ : (ones (magOf x) : Int) = cx
theorem patZ1 (x y : Int) (hx : Fits x 6) (hy : Fits y 6) : ∃ zx za zo lx cx, Hid (PatZ1 x y zx za zo lx cx) := by
  have h1 := fits_bl hx
  have h2 := fits_bl hy
  have hone : Fits (-1) 6 := by unfold Fits; decide
  refine ⟨_, _, _, _, _, Lib.hid ⟨rfl, rfl, rfl, fits_two (boole_size 6 x y 192 h1 h2) (by decide), fits_two (boole_size 8 x y 192 h1 h2) (by decide), hone.sub hx, xor_and x y, ?_, rfl, ?_, rfl⟩⟩
  · rw [bl_opp]
  · rw [ones_opp]
theorem pat_bit : ∀ o p : Nat, o < 16 → p ≤ 3 → (bits .and .i64 ((o : Int) / 2 ^ p) 1 == 1) = o.testBit p := by
  intro o p ho hp
  rcases (show p = 0 ∨ p = 1 ∨ p = 2 ∨ p = 3 by omega) with rfl | rfl | rfl | rfl <;> revert o <;> decide
/-- The numbers of the shifts. -/
structure PatZ3 (x : Int) (size : Nat) (zs : Int) : Prop where
  e1 : shErr x (size : Int) = 0
  a1 : shAns x (size : Int) = zs
  fs : Fits zs 14
  e2 : shErr zs (-(size : Int)) = 0
  a2 : shAns zs (-(size : Int)) = x
theorem patZ3 (x : Int) (size : Nat) (hx : Fits x 6) (hk : size ≤ 255) : ∃ zs, Hid (PatZ3 x size zs) := by
  have h1 := fits_bl hx
  have n1 : ¬ shBig x (size : Int) := fun h => by have := h.2.2; omega
  have n2 : ¬ shBig (shZ x (size : Int)) (-(size : Int)) := fun h => by have := h.1; omega
  refine ⟨shZ x (size : Int), Lib.hid ⟨?_, ?_, ?_, ?_, ?_⟩⟩
  · unfold shErr; rw [if_neg n1]
  · unfold shAns; rw [if_neg n1]
  · have h2 : x.natAbs ≤ 2 ^ 192 := Nat.le_of_lt (show x.natAbs < B32 ^ 6 from hx)
    exact fits_two (up_size h2 size) (by omega)
  · unfold shErr; rw [if_neg n2]
  · unfold shAns; rw [if_neg n2]; exact sh_back x size
theorem pat_pair (a b : Bool) : 2 * a.toNat + b.toNat ≤ 3 := by cases a <;> cases b <;> decide
/-- The further numbers of the law. -/
structure PatZ2 (x y : Int) (op size position : Nat) (zd zu zw zz : Int) (o16 : Nat) : Prop where
  ho : op % 16 = o16
  lo : o16 < 16
  dep : depZ x y size position = zd
  fu : fieldZ zd size position = zu
  fv : fieldZ y size 0 = zu
  fw : fieldZ x size position = zw
  back : depZ x zw size position = x
  bz : booleZ o16 x y = zz
  fd : Fits zd 17
  fitu : Fits zu 8
  fitw : Fits zw 8
  fz : Fits zz 7
theorem patZ2 (x y : Int) (op size position : Nat) (hx : Fits x 6) (hy : Fits y 6) (hk : size ≤ 255) (hp : position ≤ 255) : ∃ zd zu zw zz o16, Hid (PatZ2 x y op size position zd zu zw zz o16) := by
  have h1 := fits_bl hx
  have h2 := fits_bl hy
  refine ⟨_, _, _, _, op % 16, Lib.hid ⟨rfl, Nat.mod_lt _ (by decide), rfl, rfl, (field_dep x y size position).symm, rfl, dep_field x size position, rfl, ?_, ?_, ?_, ?_⟩⟩
  · exact fits_two (dep_size x y size position 510 (by omega) (by omega)) (by decide)
  · exact fits_two (Nat.le_trans (Nat.le_of_lt (field_lt _ size position)) (Nat.pow_le_pow_right (by decide) hk)) (by decide)
  · exact fits_two (Nat.le_trans (Nat.le_of_lt (field_lt x size position)) (Nat.pow_le_pow_right (by decide) hk)) (by decide)
  · exact fits_two (boole_size _ x y 192 h1 h2) (by decide)

set_option maxRecDepth 100000 in
set_option maxHeartbeats 8000000 in
theorem patterns_short (op size position bit : Nat) (s1 : Bool) (A1 : Option Addr) (c1 : Nat) (xs1 : List Nat) (s2 : Bool) (A2 : Option Addr) (c2 : Nat) (xs2 : List Nat) (w : World)
    (h1 : Plain w A1 c1 xs1) (h2 : Plain w A2 c2 xs2) (l1 : xs1.length ≤ 6) (l2 : xs2.length ≤ 6) (hop : op ≤ 255) (hk : size ≤ 255) (hp : position ≤ 255) (hbit : bit ≤ 65535) :
    Calls Try.prog 13 #[.agg #[.bool s1, .slice A1 xs1.length c1], .agg #[.bool s2, .slice A2 xs2.length c2], .int .u8 (op : Int), .int .u8 (size : Int), .int .u8 (position : Int), .int .u16 (bit : Int)] w fun e w' => IsBool w w' true e := by
  have hb0 := boxed2_bel w (.bool s1) (.slice A1 xs1.length c1) (.bool s2) (.slice A2 xs2.length c2)
  have hx0 := boxed2_x w (.bool s1) (.slice A1 xs1.length c1) (.bool s2) (.slice A2 xs2.length c2)
  have hy0 := boxed2_y w (.bool s1) (.slice A1 xs1.length c1) (.bool s2) (.slice A2 xs2.length c2)
  have hsz := boxed2_size w (.bool s1) (.slice A1 xs1.length c1) (.bool s2) (.slice A2 xs2.length c2)
  have hba : Below (boxed2 w (.bool s1) (.slice A1 xs1.length c1) (.bool s2) (.slice A2 xs2.length c2)).heap.size (boxed2 w (.bool s1) (.slice A1 xs1.length c1) (.bool s2) (.slice A2 xs2.length c2)) ((boxed2 w (.bool s1) (.slice A1 xs1.length c1) (.bool s2) (.slice A2 xs2.length c2)).alloc (.cells #[.bool s1, .slice A1 xs1.length c1, .bool s2, .slice A2 xs2.length c2] 24)) := (Below.refl _ _).alloc (Nat.le_refl _) _
  have hx1 := hx0.step hba rfl (by omega)
  have hy1 := hy0.step hba rfl (by omega)
  have hsh : Calls Try.prog 14 #[.int .i64 6, .slice (some ⟨w.heap.size + 2, 0, none⟩) 2 2] ((boxed2 w (.bool s1) (.slice A1 xs1.length c1) (.bool s2) (.slice A2 xs2.length c2)).alloc (.cells #[.bool s1, .slice A1 xs1.length c1, .bool s2, .slice A2 xs2.length c2] 24)) fun e w' => IsBool ((boxed2 w (.bool s1) (.slice A1 xs1.length c1) (.bool s2) (.slice A2 xs2.length c2)).alloc (.cells #[.bool s1, .slice A1 xs1.length c1, .bool s2, .slice A2 xs2.length c2] 24)) w' true e := by
    have hr := row2 (boxed2 w (.bool s1) (.slice A1 xs1.length c1) (.bool s2) (.slice A2 xs2.length c2)) s1 s2 A1 A2 xs1.length xs2.length c1 c2 24
    rw [hsz] at hr
    have := shortN_any (w.heap.size + 2) 6 [⟨s1, A1, xs1.length, c1⟩, ⟨s2, A2, xs2.length, c2⟩] _ hr (by simp)
    rw [decide_eq_true (show AllS 6 [⟨s1, A1, xs1.length, c1⟩, ⟨s2, A2, xs2.length, c2⟩] from fun y hy => by simp at hy; rcases hy with rfl | rfl; exact l1; exact l2)] at this
    exact this
  have H := Lib.hid (And.intro hsh (And.intro (below_then hb0 hba) (And.intro hx1 (And.intro hy1 hsz))))
  have HP := Lib.hid (And.intro h1 (And.intro h2 (And.intro (fits_of6 (s := s1) h1.2.1 l1) (fits_of6 (s := s2) h2.2.1 l2))))
  clear hb0 hx0 hy0 hsz hba hx1 hy1 hsh h1 h2 l1 l2
  go_enter Try.func13, Try.ntmps13
  go_wp2_with fail
  refine H.out.1.mono ?_
  rintro e w1 ⟨rfl, hb1⟩
  have sz0 : w.heap.size + 3 ≤ w1.heap.size := by have := hb1.size; have h2 := H.out.2.2.2.2; rw [size_alloc] at this; omega
  have kx := H.out.2.2.1.step hb1 rfl (by rw [size_alloc]; have := H.out.2.2.2.2; omega)
  have ky := H.out.2.2.2.1.step hb1 rfl (by rw [size_alloc]; have := H.out.2.2.2.2; omega)
  have bl1 := below_then H.out.2.1 hb1
  have hba : Below w1.heap.size w1 (w1.alloc (.cells #[.bool s1, .slice A1 xs1.length c1, .bool s2, .slice A2 xs2.length c2] 24)) := (Below.refl _ _).alloc (Nat.le_refl _) _
  have bl2 := below_then bl1 hba
  have hmk := madeN_any w1.heap.size [⟨s1, A1, xs1.length, c1⟩, ⟨s2, A2, xs2.length, c2⟩] [ofSign s1 (Lm.val B32 xs1), ofSign s2 (Lm.val B32 xs2)] _ (row2 w1 s1 s2 A1 A2 xs1.length xs2.length c1 c2 24)
    ⟨rfl, fun i x z hx hz => by
      match i, hx, hz with
      | 0, hx, hz => simp at hx hz; subst hx hz; exact ⟨xs1, rfl, HP.out.1.step bl2 rfl, rfl⟩
      | 1, hx, hz => simp at hx hz; subst hx hz; exact ⟨xs2, rfl, HP.out.2.1.step bl2 rfl, rfl⟩⟩ (by simp) (by simp)
  obtain ⟨x, hx⟩ : ∃ x, ofSign s1 (Lm.val B32 xs1) = x := ⟨_, rfl⟩
  obtain ⟨y, hy⟩ : ∃ y, ofSign s2 (Lm.val B32 xs2) = y := ⟨_, rfl⟩
  have hfx := HP.out.2.2.1
  have hfy := HP.out.2.2.2
  rw [hx] at hfx hmk
  rw [hy] at hfy hmk
  have HM := Lib.hid (And.intro (show Calls Try.prog 64 #[.slice (some ⟨w1.heap.size, 0, none⟩) 2 2] _ _ from hmk) (And.intro bl2 (And.intro hfx hfy)))
  obtain ⟨px0, px1⟩ := id kx
  obtain ⟨py0, py1⟩ := id ky
  clear hb1 kx ky bl1 hba bl2 hmk hx hy hfx hfy HP H
  go_wp2_with fail
  refine HM.out.1.mono ?_
  rintro e w2 ⟨g, cc, rfl, hcc, hlt, hcells, hb2⟩
  obtain ⟨u1, v1, f0, f1, ⟨b1, B1, k1, d1, rfl, rfl, _, hi1⟩⟩ := hcells 0 x rfl
  obtain ⟨u2, v2, f2, f3, ⟨b2, B2, k2, d2, rfl, rfl, _, hi2⟩⟩ := hcells 1 y rfl
  have bl2 := below_then HM.out.2.1 hb2
  have HI := Lib.hid (And.intro hi1 (And.intro hi2 (And.intro bl2 (And.intro HM.out.2.2.1 HM.out.2.2.2))))
  simp only [List.length_cons, List.length_nil, Nat.mul_zero, Nat.zero_add, Nat.mul_one, Nat.reduceAdd] at f0 f1 f2 f3 hcc ⊢
  clear hcells hi1 hi2 bl2 hb2 px0 px1 py0 py1 HM
  have hcc' : (2 : Int) ≤ (cc : Int) := by omega
  have a0 := fun o1 : Obj => (World.cell?_alloc_lt w2 o1 ⟨g, 0, none⟩ hlt).trans f0
  have a1 := fun o1 : Obj => (World.cell?_alloc_lt w2 o1 ⟨g, 1, none⟩ hlt).trans f1
  have a2 := fun o1 : Obj => (World.cell?_alloc_lt w2 o1 ⟨g, 2, none⟩ hlt).trans f2
  have a3 := fun o1 : Obj => (World.cell?_alloc_lt w2 o1 ⟨g, 3, none⟩ hlt).trans f3
  have hlt2 : ∀ o1 : Obj, g < (w2.alloc o1).heap.size := fun o1 => by simp; omega
  have b0 := fun o1 o2 : Obj => (World.cell?_alloc_lt (w2.alloc o1) o2 ⟨g, 0, none⟩ (hlt2 o1)).trans (a0 o1)
  have b1' := fun o1 o2 : Obj => (World.cell?_alloc_lt (w2.alloc o1) o2 ⟨g, 1, none⟩ (hlt2 o1)).trans (a1 o1)
  have b2' := fun o1 o2 : Obj => (World.cell?_alloc_lt (w2.alloc o1) o2 ⟨g, 2, none⟩ (hlt2 o1)).trans (a2 o1)
  have b3' := fun o1 o2 : Obj => (World.cell?_alloc_lt (w2.alloc o1) o2 ⟨g, 3, none⟩ (hlt2 o1)).trans (a3 o1)
  clear hlt2
  go_upto_region 4 with fail
  go_cut [14, 15] (fun s8 s9 wx => XyAt w 6 s8 s9 wx)
  case first => as_aux_lemma =>
    go_region
    all_goals go_wp2_with fail
    all_goals go_meet
    all_goals (first
      | (have B := boxes2 w2 (.bool b1) (.slice B1 k1 d1) (.bool b2) (.slice B2 k2 d2) 28; exact xy_of w w2 _ 6 _ _ _ _ _ _ _ _ _ _ _ _ HI.out.1 HI.out.2.1 HI.out.2.2.1 HI.out.2.2.2 B.a B.b B.below (Nat.lt_of_le_of_lt (by omega) B.size) B.size)
      | (have B := boxes2 w2 (.bool b2) (.slice B2 k2 d2) (.bool b1) (.slice B1 k1 d1) 28; exact xy_of w w2 _ 6 _ _ _ _ _ _ _ _ _ _ _ _ HI.out.1 HI.out.2.1 HI.out.2.2.1 HI.out.2.2.2 B.b B.a B.below B.size (Nat.lt_of_le_of_lt (by omega) B.size)))
  case rest =>
    obtain ⟨r8, r9, b1, B1, k1, d1, b2, B2, k2, d2, x, y, wx, rfl, rfl, rfl, hvs, hbl, hfx, hfy⟩ := hcut
    have HV := Lib.hid (And.intro hvs hbl)
    have HF := Lib.hid (And.intro hfx hfy)
    clear hvs hbl hfx hfy HI
    go_upto_region 6 with fail
    obtain ⟨zx, za, zo, lx, cx, HZ⟩ := patZ1 x y HF.out.1 HF.out.2
    obtain ⟨px0, px1⟩ : Two wx r8 (.bool b1) (.slice B1 k1 d1) := (HV.out.1 1 _ rfl).two rfl
    obtain ⟨py0, py1⟩ : Two wx r9 (.bool b2) (.slice B2 k2 d2) := (HV.out.1 0 _ rfl).two rfl
    go_wp2_with fail
    refine (boole_is 6 _ _ x y zx 6 _ (by decide) ((HV.out.1 1 _ rfl).at_) ((HV.out.1 0 _ rfl).at_) (by decide) HF.out.1 HF.out.2 HZ.out.xor_).mono ?_
    rintro e wq1 ⟨qv1, rfl, ⟨qb1, qA1, qc1, qs1, rfl, qg1, ql1⟩, hb1⟩
    have hv1 := ((HV.out.1.step hb1 rfl).told qg1 ql1).laid 28
    have hl1 : Below w.heap.size w (wq1.alloc (.cells #[.bool qb1, .slice qA1 qs1.length qc1] 28)) := (below_then HV.out.2 hb1).alloc (Nat.le_trans HV.out.2.size hb1.size) _
    obtain ⟨Wq1, hW1⟩ : ∃ W : World, W = wq1.alloc (.cells #[.bool qb1, .slice qA1 qs1.length qc1] 28) := ⟨_, rfl⟩
    obtain ⟨rq1, hr1⟩ : ∃ r : Nat, r = wq1.heap.size := ⟨_, rfl⟩
    rw [← hW1] at hv1 hl1
    rw [← hr1] at hv1
    have HC1 := Lib.hid (And.intro hv1 hl1)
    have HW1 := Lib.hid hW1
    have HR1 := Lib.hid hr1
    clear px0 px1 py0 py1
    clear hv1 hl1 hW1 hr1 qg1 ql1 hb1 HV
    go_upto_region 7 with fail
    rw [← HW1.out, ← HR1.out]
    clear HW1 HR1
    obtain ⟨px0, px1⟩ : Two Wq1 r8 (.bool b1) (.slice B1 k1 d1) := (HC1.out.1 2 _ rfl).two rfl
    obtain ⟨py0, py1⟩ : Two Wq1 r9 (.bool b2) (.slice B2 k2 d2) := (HC1.out.1 1 _ rfl).two rfl
    go_wp2_with fail
    refine (boole_is 8 _ _ x y za 6 _ (by decide) ((HC1.out.1 2 _ rfl).at_) ((HC1.out.1 1 _ rfl).at_) (by decide) HF.out.1 HF.out.2 HZ.out.and_).mono ?_
    rintro e wq2 ⟨qv2, rfl, ⟨qb2, qA2, qc2, qs2, rfl, qg2, ql2⟩, hb2⟩
    have hv2 := ((HC1.out.1.step hb2 rfl).told qg2 ql2).laid 28
    have hl2 : Below w.heap.size w (wq2.alloc (.cells #[.bool qb2, .slice qA2 qs2.length qc2] 28)) := (below_then HC1.out.2 hb2).alloc (Nat.le_trans HC1.out.2.size hb2.size) _
    obtain ⟨Wq2, hW2⟩ : ∃ W : World, W = wq2.alloc (.cells #[.bool qb2, .slice qA2 qs2.length qc2] 28) := ⟨_, rfl⟩
    obtain ⟨rq2, hr2⟩ : ∃ r : Nat, r = wq2.heap.size := ⟨_, rfl⟩
    rw [← hW2] at hv2 hl2
    rw [← hr2] at hv2
    have HC2 := Lib.hid (And.intro hv2 hl2)
    have HW2 := Lib.hid hW2
    have HR2 := Lib.hid hr2
    clear px0 px1 py0 py1
    clear hv2 hl2 hW2 hr2 qg2 ql2 hb2 HC1
    go_upto_region 8 with fail
    rw [← HW2.out, ← HR2.out]
    clear HW2 HR2
    go_cut [22] (fun s wx => ∃ (r : Nat) (b : Bool) (A : Option Addr) (n c : Nat) (W : World), W = wx ∧ s = .pointer (some ⟨r, 0, none⟩) ∧ Vars W (⟨true, r, b, A, n, c, zo⟩ :: [⟨true, rq2, qb2, qA2, qs2.length, qc2, za⟩, ⟨true, rq1, qb1, qA1, qs1.length, qc1, zx⟩, ⟨true, r9, b2, B2, k2, d2, y⟩, ⟨true, r8, b1, B1, k1, d1, x⟩]) ∧ Below w.heap.size w W)
    case first => as_aux_lemma =>
      have HD3 := Lib.hid (And.intro HC2.out.1.drew HC2.out.2.drew)
      refine wp_region_held_drew (S := Cells [⟨true, rq2, qb2, qA2, qs2.length, qc2, za⟩, ⟨true, rq1, qb1, qA1, qs1.length, qc1, zx⟩, ⟨true, r9, b2, B2, k2, d2, y⟩, ⟨true, r8, b1, B1, k1, d1, x⟩]) (by kernel_rfl) (HD3.out.1.cells) (fun hH0 => ?_)
      refine wpAnyH_take (i := 1) (v := (.agg #[.bool b1, .slice B1 k1 d1])) rfl (by kernel_rfl) (by kernel_rfl) (by kernel_rfl) (fun _ _ _ h => h) (Or.inl ⟨by kernel_rfl, fun w0 hS0 => run_load (hS0 3 _ rfl rfl) (.tmp 14) (by kernel_rfl) (by kernel_rfl)⟩) hH0 ?r1
      change wpAnyH _ _ _ _ _ _ _ (Act.put _ (some 70) _) _
      simp only [Act.put, List.setIfInBounds_toArray, List.set_cons_zero, List.set_cons_succ]
      refine wpAnyH_ready (rs := [0, 3]) (by kernel_rfl) (by simp) ?_
      refine AllReadyH.cons rfl (fun K hK0 => ?d2) (AllReadyH.cons rfl (fun K hK0 => ?d3) (AllReadyH.nil))
      case d2 =>
        have hK := hK0.out
        clear hK0
        rw [if_pos (by kernel_rfl)]
        refine wp_go_call 17 #[(Value.int IntKind.i64 (-1))] (fun _ => by kernel_rfl) ((new_is (-1) _ (by decide) (by decide)).mono ?_)
        rintro e wq4 ⟨qv4, rfl, ⟨qb4, qA4, qc4, qs4, rfl, qg4, ql4⟩, hb4⟩
        have HD4 := Lib.hid (And.intro ((HD3.out.1.step hb4 rfl).told qg4 ql4) (below_then HD3.out.2 hb4))
        refine ⟨(.agg #[.bool qb4, .slice qA4 qs4.length qc4]), rfl, hK _ _ (HD4.out.1.tail.cells) (fun hH4 => ?_)⟩
        clear hK K hH0
        change wpAnyH _ _ _ _ _ _ _ (Act.put _ (some 69) _) _
        simp only [Act.put, List.setIfInBounds_toArray, List.set_cons_zero, List.set_cons_succ]
        refine wpAnyH_ready (rs := [2, 3]) (by kernel_rfl) (by simp) ?_
        refine AllReadyH.cons rfl (fun K hK0 => ?d4) (AllReadyH.cons rfl (fun K hK0 => ?d5) (AllReadyH.nil))
        case d4 =>
          have hK := hK0.out
          clear hK0
          rw [if_pos (by kernel_rfl)]
          refine wp_go_call 40 #[(.agg #[.bool qb4, .slice qA4 qs4.length qc4]), (.agg #[.bool b1, .slice B1 k1 d1])] (fun _ => by kernel_rfl) ((sub_is _ _ (-1) x zo 6 _ ((HD4.out.1 0 _ rfl).at_) ((HD4.out.1 4 _ rfl).at_) (by decide) (by unfold Fits; decide) HF.out.1 HZ.out.opp).mono ?_)
          rintro e wq5 ⟨qv5, rfl, ⟨qb5, qA5, qc5, qs5, rfl, qg5, ql5⟩, hb5⟩
          have HD5 := Lib.hid (And.intro ((HD4.out.1.step hb5 rfl).told qg5 ql5) (below_then HD4.out.2 hb5))
          refine ⟨(.agg #[.bool qb5, .slice qA5 qs5.length qc5]), rfl, hK _ _ (HD5.out.1.tail.tail.cells) (fun hH5 => ?_)⟩
          clear hK K hH4
          change wpAnyH _ _ _ _ _ _ _ (Act.put _ (some 71) _) _
          simp only [Act.put, List.setIfInBounds_toArray, List.set_cons_zero, List.set_cons_succ]
          refine wpAnyH_ready (rs := [3]) (by kernel_rfl) (by simp) ?_
          refine AllReadyH.cons rfl (fun K hK0 => ?d6) (AllReadyH.nil)
          have hK := hK0.out
          clear hK0
          rw [if_pos (by kernel_rfl)]
          refine wp_go_val (.pointer (some ⟨(wq5).heap.size, 0, none⟩)) (run_alloc _ _ _ (by kernel_rfl)) ?_
          have HD6 := Lib.hid (And.intro (HD5.out.1.alloc (.cells #[.bool false, .slice none 0 0] 28)) (HD5.out.2.alloc HD5.out.2.size (.cells #[.bool false, .slice none 0 0] 28)))
          have hr6 := Res.new (wq5) 28
          have hr6_lt : (wq5).heap.size < ((wq5).alloc (.cells #[.bool false, .slice none 0 0] 28)).heap.size := by rw [size_alloc]; omega
          refine hK _ _ (HD6.out.1.tail.tail.cells) (fun hH6 => ?_)
          clear hK K hH5
          change wpAnyH _ _ _ _ _ _ _ (Act.put _ (some 22) _) _
          simp only [Act.put, List.setIfInBounds_toArray, List.set_cons_zero, List.set_cons_succ]
          refine wpAnyH_ready (rs := [4]) (by kernel_rfl) (by simp) ?_
          refine AllReadyH.cons rfl (fun K hK0 => ?d7) (AllReadyH.nil)
          have hK := hK0.out
          clear hK0
          rw [if_pos (by kernel_rfl)]
          refine wp_go_skip (run_store _ _ (wq5) qb5 qA5 qs5.length qc5 (.tmp 22) (.tmp 71) (by kernel_rfl) (by kernel_rfl) (by kernel_rfl)) ?_
          have HD7 := Lib.hid (And.intro ((HD5.out.1.skip).laid 28) (HD5.out.2.alloc HD5.out.2.size (.cells #[.bool qb5, .slice qA5 qs5.length qc5] 28)))
          refine hK _ _ (HD7.out.1.tail.cells) (fun hH7 => ?_)
          clear hK K hH6
          change wpAnyH _ _ _ _ _ _ _ (Act.put _ none _) _
          simp only [Act.put]
          refine wpAnyH_done (by kernel_rfl) ?_ _
          go_wp2
          go_meet
          exact ⟨_, _, _, _, _, _, rfl, rfl, HD7.out.1, HD7.out.2⟩
        case d5 =>
          have hK := hK0.out
          clear hK0
          rw [if_pos (by kernel_rfl)]
          refine wp_go_val (.pointer (some ⟨(wq4).heap.size, 0, none⟩)) (run_alloc _ _ _ (by kernel_rfl)) ?_
          have HD8 := Lib.hid (And.intro (HD4.out.1.alloc (.cells #[.bool false, .slice none 0 0] 28)) (HD4.out.2.alloc HD4.out.2.size (.cells #[.bool false, .slice none 0 0] 28)))
          have hr8 := Res.new (wq4) 28
          have hr8_lt : (wq4).heap.size < ((wq4).alloc (.cells #[.bool false, .slice none 0 0] 28)).heap.size := by rw [size_alloc]; omega
          refine hK _ _ (HD8.out.1.tail.cells) (fun hH8 => ?_)
          clear hK K hH4
          change wpAnyH _ _ _ _ _ _ _ (Act.put _ (some 22) _) _
          simp only [Act.put, List.setIfInBounds_toArray, List.set_cons_zero, List.set_cons_succ]
          refine wpAnyH_ready (rs := [2]) (by kernel_rfl) (by simp) ?_
          refine AllReadyH.cons rfl (fun K hK0 => ?d8) (AllReadyH.nil)
          have hK := hK0.out
          clear hK0
          rw [if_pos (by kernel_rfl)]
          refine wp_go_call 40 #[(.agg #[.bool qb4, .slice qA4 qs4.length qc4]), (.agg #[.bool b1, .slice B1 k1 d1])] (fun _ => by kernel_rfl) ((sub_is _ _ (-1) x zo 6 _ ((HD8.out.1 0 _ rfl).at_) ((HD8.out.1 4 _ rfl).at_) (by decide) (by unfold Fits; decide) HF.out.1 HZ.out.opp).mono ?_)
          rintro e wq9 ⟨qv9, rfl, ⟨qb9, qA9, qc9, qs9, rfl, qg9, ql9⟩, hb9⟩
          have HD9 := Lib.hid (And.intro ((HD8.out.1.step hb9 rfl).told qg9 ql9) (below_then HD8.out.2 hb9))
          have hr9_3 := hr8.step hb9 rfl hr8_lt
          have hr9_3_lt := Nat.lt_of_lt_of_le hr8_lt hb9.size
          refine ⟨(.agg #[.bool qb9, .slice qA9 qs9.length qc9]), rfl, hK _ _ (HD9.out.1.tail.tail.cells) (fun hH9 => ?_)⟩
          clear hK K hH8
          change wpAnyH _ _ _ _ _ _ _ (Act.put _ (some 71) _) _
          simp only [Act.put, List.setIfInBounds_toArray, List.set_cons_zero, List.set_cons_succ]
          refine wpAnyH_ready (rs := [4]) (by kernel_rfl) (by simp) ?_
          refine AllReadyH.cons rfl (fun K hK0 => ?d9) (AllReadyH.nil)
          have hK := hK0.out
          clear hK0
          rw [if_pos (by kernel_rfl)]
          refine wp_go_skip (run_store2 hr9_3 qb9 qA9 qs9.length qc9 (.tmp 22) (.tmp 71) (by kernel_rfl) (by kernel_rfl) (by kernel_rfl)) ?_
          have hv10 := Vars.put (HD4.out.1.tail) (HD9.out.1.skip) hr9_3 (Nat.le_refl _) hr9_3_lt
          have HD10 := Lib.hid (And.intro hv10 ((HD9.out.2.setCell (p := ⟨(wq4).heap.size, 0, none⟩) HD4.out.2.size (.bool qb9)).setCell (p := ⟨(wq4).heap.size, 1, none⟩) HD4.out.2.size (.slice qA9 qs9.length qc9)))
          refine hK _ _ (HD10.out.1.tail.cells) (fun hH10 => ?_)
          clear hK K hH9
          change wpAnyH _ _ _ _ _ _ _ (Act.put _ none _) _
          simp only [Act.put]
          refine wpAnyH_done (by kernel_rfl) ?_ _
          go_wp2
          go_meet
          exact ⟨_, _, _, _, _, _, rfl, rfl, HD10.out.1, HD10.out.2⟩
      case d3 =>
        have hK := hK0.out
        clear hK0
        rw [if_pos (by kernel_rfl)]
        refine wp_go_val (.pointer (some ⟨(Wq2.drew).heap.size, 0, none⟩)) (run_alloc _ _ _ (by kernel_rfl)) ?_
        have HD11 := Lib.hid (And.intro (HD3.out.1.alloc (.cells #[.bool false, .slice none 0 0] 28)) (HD3.out.2.alloc HD3.out.2.size (.cells #[.bool false, .slice none 0 0] 28)))
        have hr11 := Res.new (Wq2.drew) 28
        have hr11_lt : (Wq2.drew).heap.size < ((Wq2.drew).alloc (.cells #[.bool false, .slice none 0 0] 28)).heap.size := by rw [size_alloc]; omega
        refine hK _ _ (HD11.out.1.cells) (fun hH11 => ?_)
        clear hK K hH0
        change wpAnyH _ _ _ _ _ _ _ (Act.put _ (some 22) _) _
        simp only [Act.put, List.setIfInBounds_toArray, List.set_cons_zero, List.set_cons_succ]
        refine wpAnyH_ready (rs := [0]) (by kernel_rfl) (by simp) ?_
        refine AllReadyH.cons rfl (fun K hK0 => ?d10) (AllReadyH.nil)
        have hK := hK0.out
        clear hK0
        rw [if_pos (by kernel_rfl)]
        refine wp_go_call 17 #[(Value.int IntKind.i64 (-1))] (fun _ => by kernel_rfl) ((new_is (-1) _ (by decide) (by decide)).mono ?_)
        rintro e wq12 ⟨qv12, rfl, ⟨qb12, qA12, qc12, qs12, rfl, qg12, ql12⟩, hb12⟩
        have HD12 := Lib.hid (And.intro ((HD11.out.1.step hb12 rfl).told qg12 ql12) (below_then HD11.out.2 hb12))
        have hr12_3 := hr11.step hb12 rfl hr11_lt
        have hr12_3_lt := Nat.lt_of_lt_of_le hr11_lt hb12.size
        refine ⟨(.agg #[.bool qb12, .slice qA12 qs12.length qc12]), rfl, hK _ _ (HD12.out.1.tail.cells) (fun hH12 => ?_)⟩
        clear hK K hH11
        change wpAnyH _ _ _ _ _ _ _ (Act.put _ (some 69) _) _
        simp only [Act.put, List.setIfInBounds_toArray, List.set_cons_zero, List.set_cons_succ]
        refine wpAnyH_ready (rs := [2]) (by kernel_rfl) (by simp) ?_
        refine AllReadyH.cons rfl (fun K hK0 => ?d11) (AllReadyH.nil)
        have hK := hK0.out
        clear hK0
        rw [if_pos (by kernel_rfl)]
        refine wp_go_call 40 #[(.agg #[.bool qb12, .slice qA12 qs12.length qc12]), (.agg #[.bool b1, .slice B1 k1 d1])] (fun _ => by kernel_rfl) ((sub_is _ _ (-1) x zo 6 _ ((HD12.out.1 0 _ rfl).at_) ((HD12.out.1 4 _ rfl).at_) (by decide) (by unfold Fits; decide) HF.out.1 HZ.out.opp).mono ?_)
        rintro e wq13 ⟨qv13, rfl, ⟨qb13, qA13, qc13, qs13, rfl, qg13, ql13⟩, hb13⟩
        have HD13 := Lib.hid (And.intro ((HD12.out.1.step hb13 rfl).told qg13 ql13) (below_then HD12.out.2 hb13))
        have hr13_3 := hr12_3.step hb13 rfl hr12_3_lt
        have hr13_3_lt := Nat.lt_of_lt_of_le hr12_3_lt hb13.size
        refine ⟨(.agg #[.bool qb13, .slice qA13 qs13.length qc13]), rfl, hK _ _ (HD13.out.1.tail.tail.cells) (fun hH13 => ?_)⟩
        clear hK K hH12
        change wpAnyH _ _ _ _ _ _ _ (Act.put _ (some 71) _) _
        simp only [Act.put, List.setIfInBounds_toArray, List.set_cons_zero, List.set_cons_succ]
        refine wpAnyH_ready (rs := [4]) (by kernel_rfl) (by simp) ?_
        refine AllReadyH.cons rfl (fun K hK0 => ?d12) (AllReadyH.nil)
        have hK := hK0.out
        clear hK0
        rw [if_pos (by kernel_rfl)]
        refine wp_go_skip (run_store2 hr13_3 qb13 qA13 qs13.length qc13 (.tmp 22) (.tmp 71) (by kernel_rfl) (by kernel_rfl) (by kernel_rfl)) ?_
        have hv14 := Vars.put (HD3.out.1) (HD13.out.1.skip) hr13_3 (Nat.le_refl _) hr13_3_lt
        have HD14 := Lib.hid (And.intro hv14 ((HD13.out.2.setCell (p := ⟨(Wq2.drew).heap.size, 0, none⟩) HD3.out.2.size (.bool qb13)).setCell (p := ⟨(Wq2.drew).heap.size, 1, none⟩) HD3.out.2.size (.slice qA13 qs13.length qc13)))
        refine hK _ _ (HD14.out.1.tail.cells) (fun hH14 => ?_)
        clear hK K hH13
        change wpAnyH _ _ _ _ _ _ _ (Act.put _ none _) _
        simp only [Act.put]
        refine wpAnyH_done (by kernel_rfl) ?_ _
        go_wp2
        go_meet
        exact ⟨_, _, _, _, _, _, rfl, rfl, HD14.out.1, HD14.out.2⟩
    case rest =>
      obtain ⟨ro, bo, Ao, no, co, Wo, rfl, rfl, hvs, hbl⟩ := hcut
      have HCo := Lib.hid (And.intro hvs hbl)
      clear hvs hbl HC2
      go_upto_region 9 with fail
      go_cut [103] (fun s103 wx => s103 = .bool false ∧ ∃ W : World, W = wx ∧ Vars W [⟨true, ro, bo, Ao, no, co, zo⟩, ⟨true, rq2, qb2, qA2, qs2.length, qc2, za⟩, ⟨true, rq1, qb1, qA1, qs1.length, qc1, zx⟩, ⟨true, r9, b2, B2, k2, d2, y⟩, ⟨true, r8, b1, B1, k1, d1, x⟩] ∧ Below w.heap.size w W)
      case first => as_aux_lemma =>
        have HD16 := Lib.hid (And.intro HCo.out.1.drew HCo.out.2.drew)
        refine wp_region_held_drew (S := Cells [⟨true, ro, bo, Ao, no, co, zo⟩, ⟨true, rq2, qb2, qA2, qs2.length, qc2, za⟩, ⟨true, rq1, qb1, qA1, qs1.length, qc1, zx⟩, ⟨true, r9, b2, B2, k2, d2, y⟩, ⟨true, r8, b1, B1, k1, d1, x⟩]) (by kernel_rfl) (HD16.out.1.cells) (fun hH0 => ?_)
        refine wpAnyH_take (i := 0) (v := (.int .i64 0)) rfl (by kernel_rfl) (by kernel_rfl) (by kernel_rfl) (fun _ _ _ h => h) (Or.inl ⟨by kernel_rfl, fun _ _ => by kernel_rfl⟩) hH0 ?r13
        change wpAnyH _ _ _ _ _ _ _ (Act.put _ (some 72) _) _
        simp only [Act.put, List.setIfInBounds_toArray, List.set_cons_zero, List.set_cons_succ]
        refine wpAnyH_take (i := 1) (v := (.bool false)) rfl (by kernel_rfl) (by kernel_rfl) (by kernel_rfl) (fun _ _ _ h => h) (Or.inl ⟨by kernel_rfl, fun _ _ => by kernel_rfl⟩) hH0 ?r14
        change wpAnyH _ _ _ _ _ _ _ (Act.put _ (some 73) _) _
        simp only [Act.put, List.setIfInBounds_toArray, List.set_cons_zero, List.set_cons_succ]
        refine wpAnyH_take (i := 2) (v := (.bool false)) rfl (by kernel_rfl) (by kernel_rfl) (by kernel_rfl) (fun _ _ _ h => h) (Or.inl ⟨by kernel_rfl, fun _ _ => by kernel_rfl⟩) hH0 ?r15
        change wpAnyH _ _ _ _ _ _ _ (Act.put _ (some 74) _) _
        simp only [Act.put, List.setIfInBounds_toArray, List.set_cons_zero, List.set_cons_succ]
        refine wpAnyH_take (i := 3) (v := (.int .i64 0)) rfl (by kernel_rfl) (by kernel_rfl) (by kernel_rfl) (fun _ _ _ h => h) (Or.inl ⟨by kernel_rfl, fun _ _ => by kernel_rfl⟩) hH0 ?r16
        change wpAnyH _ _ _ _ _ _ _ (Act.put _ (some 75) _) _
        simp only [Act.put, List.setIfInBounds_toArray, List.set_cons_zero, List.set_cons_succ]
        refine wpAnyH_take (i := 4) (v := (.bool false)) rfl (by kernel_rfl) (by kernel_rfl) (by kernel_rfl) (fun _ _ _ h => h) (Or.inl ⟨by kernel_rfl, fun _ _ => by kernel_rfl⟩) hH0 ?r17
        change wpAnyH _ _ _ _ _ _ _ (Act.put _ (some 76) _) _
        simp only [Act.put, List.setIfInBounds_toArray, List.set_cons_zero, List.set_cons_succ]
        refine wpAnyH_take (i := 5) (v := (.bool false)) rfl (by kernel_rfl) (by kernel_rfl) (by kernel_rfl) (fun _ _ _ h => h) (Or.inl ⟨by kernel_rfl, fun _ _ => by kernel_rfl⟩) hH0 ?r18
        change wpAnyH _ _ _ _ _ _ _ (Act.put _ (some 77) _) _
        simp only [Act.put, List.setIfInBounds_toArray, List.set_cons_zero, List.set_cons_succ]
        refine wpAnyH_take (i := 6) (v := (.bool false)) rfl (by kernel_rfl) (by kernel_rfl) (by kernel_rfl) (fun _ _ _ h => h) (Or.inl ⟨by kernel_rfl, fun _ _ => by kernel_rfl⟩) hH0 ?r19
        change wpAnyH _ _ _ _ _ _ _ (Act.put _ (some 78) _) _
        simp only [Act.put, List.setIfInBounds_toArray, List.set_cons_zero, List.set_cons_succ]
        refine wpAnyH_take (i := 7) (v := (.agg #[.bool qb1, .slice qA1 qs1.length qc1])) rfl (by kernel_rfl) (by kernel_rfl) (by kernel_rfl) (fun _ _ _ h => h) (Or.inl ⟨by kernel_rfl, fun w0 hS0 => run_load (hS0 2 _ rfl rfl) (.tmp 18) (by kernel_rfl) (by kernel_rfl)⟩) hH0 ?r20
        change wpAnyH _ _ _ _ _ _ _ (Act.put _ (some 79) _) _
        simp only [Act.put, List.setIfInBounds_toArray, List.set_cons_zero, List.set_cons_succ]
        refine wpAnyH_take (i := 8) (v := (.agg #[.bool qb2, .slice qA2 qs2.length qc2])) rfl (by kernel_rfl) (by kernel_rfl) (by kernel_rfl) (fun _ _ _ h => h) (Or.inl ⟨by kernel_rfl, fun w0 hS0 => run_load (hS0 1 _ rfl rfl) (.tmp 20) (by kernel_rfl) (by kernel_rfl)⟩) hH0 ?r21
        change wpAnyH _ _ _ _ _ _ _ (Act.put _ (some 80) _) _
        simp only [Act.put, List.setIfInBounds_toArray, List.set_cons_zero, List.set_cons_succ]
        refine wpAnyH_take (i := 10) (v := (.agg #[.bool qb2, .slice qA2 qs2.length qc2])) rfl (by kernel_rfl) (by kernel_rfl) (by kernel_rfl) (fun _ _ _ h => h) (Or.inl ⟨by kernel_rfl, fun w0 hS0 => run_load (hS0 1 _ rfl rfl) (.tmp 20) (by kernel_rfl) (by kernel_rfl)⟩) hH0 ?r22
        change wpAnyH _ _ _ _ _ _ _ (Act.put _ (some 82) _) _
        simp only [Act.put, List.setIfInBounds_toArray, List.set_cons_zero, List.set_cons_succ]
        refine wpAnyH_take (i := 12) (v := (.agg #[.bool b1, .slice B1 k1 d1])) rfl (by kernel_rfl) (by kernel_rfl) (by kernel_rfl) (fun _ _ _ h => h) (Or.inl ⟨by kernel_rfl, fun w0 hS0 => run_load (hS0 4 _ rfl rfl) (.tmp 14) (by kernel_rfl) (by kernel_rfl)⟩) hH0 ?r23
        change wpAnyH _ _ _ _ _ _ _ (Act.put _ (some 84) _) _
        simp only [Act.put, List.setIfInBounds_toArray, List.set_cons_zero, List.set_cons_succ]
        refine wpAnyH_take (i := 13) (v := (.agg #[.bool b2, .slice B2 k2 d2])) rfl (by kernel_rfl) (by kernel_rfl) (by kernel_rfl) (fun _ _ _ h => h) (Or.inl ⟨by kernel_rfl, fun w0 hS0 => run_load (hS0 3 _ rfl rfl) (.tmp 15) (by kernel_rfl) (by kernel_rfl)⟩) hH0 ?r24
        change wpAnyH _ _ _ _ _ _ _ (Act.put _ (some 85) _) _
        simp only [Act.put, List.setIfInBounds_toArray, List.set_cons_zero, List.set_cons_succ]
        refine wpAnyH_ready (rs := [9]) (by kernel_rfl) (by simp) ?_
        refine AllReadyH.cons rfl (fun K hK0 => ?d25) (AllReadyH.nil)
        have hK := hK0.out
        clear hK0
        rw [if_pos (by kernel_rfl)]
        refine wp_go_call 38 #[(.agg #[.bool qb1, .slice qA1 qs1.length qc1]), (.agg #[.bool qb2, .slice qA2 qs2.length qc2])] (fun _ => by kernel_rfl) ((add_is _ _ zx za (zx + za) 7 _ ((HD16.out.1 2 _ rfl).at_) ((HD16.out.1 1 _ rfl).at_) (by decide) HZ.out.fx HZ.out.fa rfl).mono ?_)
        rintro e wq17 ⟨qv17, rfl, ⟨qb17, qA17, qc17, qs17, rfl, qg17, ql17⟩, hb17⟩
        have HD17 := Lib.hid (And.intro ((HD16.out.1.step hb17 rfl).told qg17 ql17) (below_then HD16.out.2 hb17))
        refine ⟨(.agg #[.bool qb17, .slice qA17 qs17.length qc17]), rfl, hK _ _ (HD17.out.1.tail.cells) (fun hH17 => ?_)⟩
        clear hK K hH0
        change wpAnyH _ _ _ _ _ _ _ (Act.put _ (some 81) _) _
        simp only [Act.put, List.setIfInBounds_toArray, List.set_cons_zero, List.set_cons_succ]
        refine wpAnyH_ready (rs := [11]) (by kernel_rfl) (by simp) ?_
        refine AllReadyH.cons rfl (fun K hK0 => ?d26) (AllReadyH.nil)
        have hK := hK0.out
        clear hK0
        rw [if_pos (by kernel_rfl)]
        refine wp_go_call 38 #[(.agg #[.bool qb17, .slice qA17 qs17.length qc17]), (.agg #[.bool qb2, .slice qA2 qs2.length qc2])] (fun _ => by kernel_rfl) ((add_is _ _ (zx + za) za (x + y) 8 _ ((HD17.out.1 0 _ rfl).at_) ((HD17.out.1 2 _ rfl).at_) (by decide) (HZ.out.fx.add HZ.out.fa) (HZ.out.fa.up (by decide)) HZ.out.sum_).mono ?_)
        rintro e wq18 ⟨qv18, rfl, ⟨qb18, qA18, qc18, qs18, rfl, qg18, ql18⟩, hb18⟩
        have HD18 := Lib.hid (And.intro ((HD17.out.1.step hb18 rfl).told qg18 ql18) (below_then HD17.out.2 hb18))
        refine ⟨(.agg #[.bool qb18, .slice qA18 qs18.length qc18]), rfl, hK _ _ (HD18.out.1.tail.tail.cells) (fun hH18 => ?_)⟩
        clear hK K hH17
        change wpAnyH _ _ _ _ _ _ _ (Act.put _ (some 83) _) _
        simp only [Act.put, List.setIfInBounds_toArray, List.set_cons_zero, List.set_cons_succ]
        refine wpAnyH_ready (rs := [14]) (by kernel_rfl) (by simp) ?_
        refine AllReadyH.cons rfl (fun K hK0 => ?d27) (AllReadyH.nil)
        have hK := hK0.out
        clear hK0
        rw [if_pos (by kernel_rfl)]
        refine wp_go_call 38 #[(.agg #[.bool b1, .slice B1 k1 d1]), (.agg #[.bool b2, .slice B2 k2 d2])] (fun _ => by kernel_rfl) ((add_is _ _ x y (x + y) 6 _ ((HD18.out.1 6 _ rfl).at_) ((HD18.out.1 5 _ rfl).at_) (by decide) HF.out.1 HF.out.2 rfl).mono ?_)
        rintro e wq19 ⟨qv19, rfl, ⟨qb19, qA19, qc19, qs19, rfl, qg19, ql19⟩, hb19⟩
        have HD19 := Lib.hid (And.intro ((HD18.out.1.step hb19 rfl).told qg19 ql19) (below_then HD18.out.2 hb19))
        refine ⟨(.agg #[.bool qb19, .slice qA19 qs19.length qc19]), rfl, hK _ _ (HD19.out.1.tail.tail.tail.cells) (fun hH19 => ?_)⟩
        clear hK K hH18
        change wpAnyH _ _ _ _ _ _ _ (Act.put _ (some 86) _) _
        simp only [Act.put, List.setIfInBounds_toArray, List.set_cons_zero, List.set_cons_succ]
        refine wpAnyH_ready (rs := [15]) (by kernel_rfl) (by simp) ?_
        refine AllReadyH.cons rfl (fun K hK0 => ?d28) (AllReadyH.nil)
        have hK := hK0.out
        clear hK0
        rw [if_pos (by kernel_rfl)]
        refine wp_go_call 65 #[(.agg #[.bool qb18, .slice qA18 qs18.length qc18]), (.agg #[.bool qb19, .slice qA19 qs19.length qc19])] (fun _ => by kernel_rfl) ((same_true _ _ (x + y) (x + y) 7 _ ((HD19.out.1 1 _ rfl).at_) ((HD19.out.1 0 _ rfl).at_) (by decide) (HF.out.1.add HF.out.2) (HF.out.1.add HF.out.2) rfl).mono ?_)
        rintro e wq20 ⟨rfl, hb20⟩
        have HD20 := Lib.hid (And.intro (HD19.out.1.step hb20 rfl) (below_then HD19.out.2 hb20))
        refine ⟨(.bool true), rfl, hK _ _ (HD20.out.1.tail.tail.tail.cells) (fun hH20 => ?_)⟩
        clear hK K hH19
        change wpAnyH _ _ _ _ _ _ _ (Act.put _ (some 87) _) _
        simp only [Act.put, List.setIfInBounds_toArray, List.set_cons_zero, List.set_cons_succ]
        refine wpAnyH_take (i := 16) (v := (.bool false)) rfl (by kernel_rfl) (by kernel_rfl) (by kernel_rfl) (fun _ _ _ h => h) (Or.inl ⟨by kernel_rfl, fun _ _ => by kernel_rfl⟩) hH20 ?r29
        change wpAnyH _ _ _ _ _ _ _ (Act.put _ (some 88) _) _
        simp only [Act.put, List.setIfInBounds_toArray, List.set_cons_zero, List.set_cons_succ]
        refine wpAnyH_take (i := 17) (v := (.bool false)) rfl (by kernel_rfl) (by kernel_rfl) (by kernel_rfl) (fun _ _ _ h => h) (Or.inl ⟨by kernel_rfl, fun _ _ => by kernel_rfl⟩) hH20 ?r30
        change wpAnyH _ _ _ _ _ _ _ (Act.put _ (some 89) _) _
        simp only [Act.put, List.setIfInBounds_toArray, List.set_cons_zero, List.set_cons_succ]
        refine wpAnyH_take (i := 18) (v := (.bool false)) rfl (by kernel_rfl) (by kernel_rfl) (by kernel_rfl) (fun _ _ _ h => h) (Or.inl ⟨by kernel_rfl, fun _ _ => by kernel_rfl⟩) hH20 ?r31
        change wpAnyH _ _ _ _ _ _ _ (Act.put _ (some 90) _) _
        simp only [Act.put, List.setIfInBounds_toArray, List.set_cons_zero, List.set_cons_succ]
        refine wpAnyH_take (i := 19) (v := (.agg #[.bool bo, .slice Ao no co])) rfl (by kernel_rfl) (by kernel_rfl) (by kernel_rfl) (fun _ _ _ h => h) (Or.inl ⟨by kernel_rfl, fun w0 hS0 => run_load (hS0 0 _ rfl rfl) (.tmp 22) (by kernel_rfl) (by kernel_rfl)⟩) hH20 ?r32
        change wpAnyH _ _ _ _ _ _ _ (Act.put _ (some 91) _) _
        simp only [Act.put, List.setIfInBounds_toArray, List.set_cons_zero, List.set_cons_succ]
        refine wpAnyH_take (i := 21) (v := (.agg #[.bool b1, .slice B1 k1 d1])) rfl (by kernel_rfl) (by kernel_rfl) (by kernel_rfl) (fun _ _ _ h => h) (Or.inl ⟨by kernel_rfl, fun w0 hS0 => run_load (hS0 4 _ rfl rfl) (.tmp 14) (by kernel_rfl) (by kernel_rfl)⟩) hH20 ?r33
        change wpAnyH _ _ _ _ _ _ _ (Act.put _ (some 93) _) _
        simp only [Act.put, List.setIfInBounds_toArray, List.set_cons_zero, List.set_cons_succ]
        refine wpAnyH_ready (rs := [20]) (by kernel_rfl) (by simp) ?_
        refine AllReadyH.cons rfl (fun K hK0 => ?d34) (AllReadyH.nil)
        have hK := hK0.out
        clear hK0
        rw [if_pos (by kernel_rfl)]
        refine wp_go_call 26 #[(.agg #[.bool bo, .slice Ao no co])] (fun _ => by kernel_rfl) ((length_is _ zo lx 7 _ ((HD20.out.1 3 _ rfl).at_) (by decide) HZ.out.fo HZ.out.lo).mono ?_)
        rintro e wq21 ⟨rfl, hb21⟩
        have HD21 := Lib.hid (And.intro (HD20.out.1.step hb21 rfl) (below_then HD20.out.2 hb21))
        refine ⟨(.int .i64 lx), rfl, hK _ _ (HD21.out.1.tail.tail.tail.cells) (fun hH21 => ?_)⟩
        clear hK K hH20
        change wpAnyH _ _ _ _ _ _ _ (Act.put _ (some 92) _) _
        simp only [Act.put, List.setIfInBounds_toArray, List.set_cons_zero, List.set_cons_succ]
        refine wpAnyH_ready (rs := [22]) (by kernel_rfl) (by simp) ?_
        refine AllReadyH.cons rfl (fun K hK0 => ?d35) (AllReadyH.nil)
        have hK := hK0.out
        clear hK0
        rw [if_pos (by kernel_rfl)]
        refine wp_go_call 26 #[(.agg #[.bool b1, .slice B1 k1 d1])] (fun _ => by kernel_rfl) ((length_is _ x lx 6 _ ((HD21.out.1 7 _ rfl).at_) (by decide) HF.out.1 HZ.out.lx_).mono ?_)
        rintro e wq22 ⟨rfl, hb22⟩
        have HD22 := Lib.hid (And.intro (HD21.out.1.step hb22 rfl) (below_then HD21.out.2 hb22))
        refine ⟨(.int .i64 lx), rfl, hK _ _ (HD22.out.1.tail.tail.tail.cells) (fun hH22 => ?_)⟩
        clear hK K hH21
        change wpAnyH _ _ _ _ _ _ _ (Act.put _ (some 94) _) _
        simp only [Act.put, List.setIfInBounds_toArray, List.set_cons_zero, List.set_cons_succ]
        refine wpAnyH_take (i := 23) (v := (.bool false)) rfl (by kernel_rfl) (by kernel_rfl) (by kernel_rfl) (fun _ _ _ h => h) (Or.inl ⟨by kernel_rfl, fun w0 hS0 => by go_simp⟩) hH22 ?r36
        change wpAnyH _ _ _ _ _ _ _ (Act.put _ (some 95) _) _
        simp only [Act.put, List.setIfInBounds_toArray, List.set_cons_zero, List.set_cons_succ]
        refine wpAnyH_take (i := 24) (v := (.bool false)) rfl (by kernel_rfl) (by kernel_rfl) (by kernel_rfl) (fun _ _ _ h => h) (Or.inl ⟨by kernel_rfl, fun _ _ => by kernel_rfl⟩) hH22 ?r37
        change wpAnyH _ _ _ _ _ _ _ (Act.put _ (some 96) _) _
        simp only [Act.put, List.setIfInBounds_toArray, List.set_cons_zero, List.set_cons_succ]
        refine wpAnyH_take (i := 25) (v := (.bool false)) rfl (by kernel_rfl) (by kernel_rfl) (by kernel_rfl) (fun _ _ _ h => h) (Or.inl ⟨by kernel_rfl, fun _ _ => by kernel_rfl⟩) hH22 ?r38
        change wpAnyH _ _ _ _ _ _ _ (Act.put _ (some 97) _) _
        simp only [Act.put, List.setIfInBounds_toArray, List.set_cons_zero, List.set_cons_succ]
        refine wpAnyH_take (i := 26) (v := (.agg #[.bool bo, .slice Ao no co])) rfl (by kernel_rfl) (by kernel_rfl) (by kernel_rfl) (fun _ _ _ h => h) (Or.inl ⟨by kernel_rfl, fun w0 hS0 => run_load (hS0 0 _ rfl rfl) (.tmp 22) (by kernel_rfl) (by kernel_rfl)⟩) hH22 ?r39
        change wpAnyH _ _ _ _ _ _ _ (Act.put _ (some 98) _) _
        simp only [Act.put, List.setIfInBounds_toArray, List.set_cons_zero, List.set_cons_succ]
        refine wpAnyH_take (i := 28) (v := (.agg #[.bool b1, .slice B1 k1 d1])) rfl (by kernel_rfl) (by kernel_rfl) (by kernel_rfl) (fun _ _ _ h => h) (Or.inl ⟨by kernel_rfl, fun w0 hS0 => run_load (hS0 4 _ rfl rfl) (.tmp 14) (by kernel_rfl) (by kernel_rfl)⟩) hH22 ?r40
        change wpAnyH _ _ _ _ _ _ _ (Act.put _ (some 100) _) _
        simp only [Act.put, List.setIfInBounds_toArray, List.set_cons_zero, List.set_cons_succ]
        refine wpAnyH_ready (rs := [27]) (by kernel_rfl) (by simp) ?_
        refine AllReadyH.cons rfl (fun K hK0 => ?d41) (AllReadyH.nil)
        have hK := hK0.out
        clear hK0
        rw [if_pos (by kernel_rfl)]
        refine wp_go_call 28 #[(.agg #[.bool bo, .slice Ao no co])] (fun _ => by kernel_rfl) ((count_is _ zo cx 7 _ ((HD22.out.1 3 _ rfl).at_) (by decide) HZ.out.fo HZ.out.co).mono ?_)
        rintro e wq23 ⟨rfl, hb23⟩
        have HD23 := Lib.hid (And.intro (HD22.out.1.step hb23 rfl) (below_then HD22.out.2 hb23))
        refine ⟨(.int .i64 cx), rfl, hK _ _ (HD23.out.1.tail.tail.tail.cells) (fun hH23 => ?_)⟩
        clear hK K hH22
        change wpAnyH _ _ _ _ _ _ _ (Act.put _ (some 99) _) _
        simp only [Act.put, List.setIfInBounds_toArray, List.set_cons_zero, List.set_cons_succ]
        refine wpAnyH_ready (rs := [29]) (by kernel_rfl) (by simp) ?_
        refine AllReadyH.cons rfl (fun K hK0 => ?d42) (AllReadyH.nil)
        have hK := hK0.out
        clear hK0
        rw [if_pos (by kernel_rfl)]
        refine wp_go_call 28 #[(.agg #[.bool b1, .slice B1 k1 d1])] (fun _ => by kernel_rfl) ((count_is _ x cx 6 _ ((HD23.out.1 7 _ rfl).at_) (by decide) HF.out.1 HZ.out.cx_).mono ?_)
        rintro e wq24 ⟨rfl, hb24⟩
        have HD24 := Lib.hid (And.intro (HD23.out.1.step hb24 rfl) (below_then HD23.out.2 hb24))
        refine ⟨(.int .i64 cx), rfl, hK _ _ (HD24.out.1.tail.tail.tail.cells) (fun hH24 => ?_)⟩
        clear hK K hH23
        change wpAnyH _ _ _ _ _ _ _ (Act.put _ (some 101) _) _
        simp only [Act.put, List.setIfInBounds_toArray, List.set_cons_zero, List.set_cons_succ]
        refine wpAnyH_take (i := 30) (v := (.bool false)) rfl (by kernel_rfl) (by kernel_rfl) (by kernel_rfl) (fun _ _ _ h => h) (Or.inl ⟨by kernel_rfl, fun w0 hS0 => by go_simp⟩) hH24 ?r43
        change wpAnyH _ _ _ _ _ _ _ (Act.put _ (some 102) _) _
        simp only [Act.put, List.setIfInBounds_toArray, List.set_cons_zero, List.set_cons_succ]
        refine wpAnyH_take (i := 31) (v := (.bool false)) rfl (by kernel_rfl) (by kernel_rfl) (by kernel_rfl) (fun _ _ _ h => h) (Or.inl ⟨by kernel_rfl, fun _ _ => by kernel_rfl⟩) hH24 ?r44
        change wpAnyH _ _ _ _ _ _ _ (Act.put _ (some 103) _) _
        simp only [Act.put, List.setIfInBounds_toArray, List.set_cons_zero, List.set_cons_succ]
        refine wpAnyH_done (by kernel_rfl) ?_ _
        go_wp2
        go_meet
        exact ⟨rfl, _, rfl, HD24.out.1.tail.tail.tail, HD24.out.2⟩
      case rest =>
        obtain ⟨rfl, Wq15, rfl, hvs, hbl⟩ := hcut
        have HC15 := Lib.hid (And.intro hvs hbl)
        clear hvs hbl HCo
        go_upto_region 11 with fail
        obtain ⟨zd, zu, zw, zz, o16, HY⟩ := patZ2 x y op size position HF.out.1 HF.out.2 hk hp
        have ho16 : (op : Int) % 16 = (o16 : Int) := by have := HY.out.ho; omega
        obtain ⟨px0, px1⟩ : Two Wq15 r8 (.bool b1) (.slice B1 k1 d1) := (HC15.out.1 4 _ rfl).two rfl
        obtain ⟨py0, py1⟩ : Two Wq15 r9 (.bool b2) (.slice B2 k2 d2) := (HC15.out.1 3 _ rfl).two rfl
        go_wp2_with fail
        refine (deposit_is _ _ x y zd size position 6 _ ((HC15.out.1 4 _ rfl).at_) ((HC15.out.1 3 _ rfl).at_) HF.out.1 HF.out.2 (by decide) (by omega) (by omega) HY.out.dep).mono ?_
        rintro e wq25 ⟨qv25, rfl, ⟨qb25, qA25, qc25, qs25, rfl, qg25, ql25⟩, hb25⟩
        have hv25 := ((HC15.out.1.step hb25 rfl).told qg25 ql25).laid 28
        have hl25 : Below w.heap.size w (wq25.alloc (.cells #[.bool qb25, .slice qA25 qs25.length qc25] 28)) := (below_then HC15.out.2 hb25).alloc (Nat.le_trans HC15.out.2.size hb25.size) _
        obtain ⟨Wq25, hW25⟩ : ∃ W : World, W = wq25.alloc (.cells #[.bool qb25, .slice qA25 qs25.length qc25] 28) := ⟨_, rfl⟩
        obtain ⟨rq25, hr25⟩ : ∃ r : Nat, r = wq25.heap.size := ⟨_, rfl⟩
        rw [← hW25] at hv25 hl25
        rw [← hr25] at hv25
        have HC25 := Lib.hid (And.intro hv25 hl25)
        have HW25 := Lib.hid hW25
        have HR25 := Lib.hid hr25
        clear px0 px1 py0 py1
        clear hv25 hl25 hW25 hr25 qg25 ql25 hb25 HC15
        go_upto_region 12 with fail
        rw [← HW25.out, ← HR25.out]
        clear HW25 HR25
        obtain ⟨pd0, pd1⟩ : Two Wq25 rq25 (.bool qb25) (.slice qA25 qs25.length qc25) := (HC25.out.1 0 _ rfl).two rfl
        go_wp2_with fail
        refine (field_is _ zd zu size position 17 _ ((HC25.out.1 0 _ rfl).at_) HY.out.fd (by decide) (by omega) (by omega) HY.out.fu).mono ?_
        rintro e wq26 ⟨qv26, rfl, ⟨qb26, qA26, qc26, qs26, rfl, qg26, ql26⟩, hb26⟩
        have hv26 := ((HC25.out.1.step hb26 rfl).told qg26 ql26).laid 28
        have hl26 : Below w.heap.size w (wq26.alloc (.cells #[.bool qb26, .slice qA26 qs26.length qc26] 28)) := (below_then HC25.out.2 hb26).alloc (Nat.le_trans HC25.out.2.size hb26.size) _
        obtain ⟨Wq26, hW26⟩ : ∃ W : World, W = wq26.alloc (.cells #[.bool qb26, .slice qA26 qs26.length qc26] 28) := ⟨_, rfl⟩
        obtain ⟨rq26, hr26⟩ : ∃ r : Nat, r = wq26.heap.size := ⟨_, rfl⟩
        rw [← hW26] at hv26 hl26
        rw [← hr26] at hv26
        have HC26 := Lib.hid (And.intro hv26 hl26)
        have HW26 := Lib.hid hW26
        have HR26 := Lib.hid hr26
        clear pd0 pd1
        clear hv26 hl26 hW26 hr26 qg26 ql26 hb26 HC25
        go_upto_region 13 with fail
        rw [← HW26.out, ← HR26.out]
        clear HW26 HR26
        obtain ⟨py0, py1⟩ : Two Wq26 r9 (.bool b2) (.slice B2 k2 d2) := (HC26.out.1 5 _ rfl).two rfl
        go_wp2_with fail
        refine (field_is _ y zu size 0 6 _ ((HC26.out.1 5 _ rfl).at_) HF.out.2 (by decide) (by omega) (by omega) HY.out.fv).mono ?_
        rintro e wq27 ⟨qv27, rfl, ⟨qb27, qA27, qc27, qs27, rfl, qg27, ql27⟩, hb27⟩
        have hv27 := ((HC26.out.1.step hb27 rfl).told qg27 ql27).laid 28
        have hl27 : Below w.heap.size w (wq27.alloc (.cells #[.bool qb27, .slice qA27 qs27.length qc27] 28)) := (below_then HC26.out.2 hb27).alloc (Nat.le_trans HC26.out.2.size hb27.size) _
        obtain ⟨Wq27, hW27⟩ : ∃ W : World, W = wq27.alloc (.cells #[.bool qb27, .slice qA27 qs27.length qc27] 28) := ⟨_, rfl⟩
        obtain ⟨rq27, hr27⟩ : ∃ r : Nat, r = wq27.heap.size := ⟨_, rfl⟩
        rw [← hW27] at hv27 hl27
        rw [← hr27] at hv27
        have HC27 := Lib.hid (And.intro hv27 hl27)
        have HW27 := Lib.hid hW27
        have HR27 := Lib.hid hr27
        clear py0 py1
        clear hv27 hl27 hW27 hr27 qg27 ql27 hb27 HC26
        go_upto_region 14 with fail
        rw [← HW27.out, ← HR27.out]
        clear HW27 HR27
        obtain ⟨px0, px1⟩ : Two Wq27 r8 (.bool b1) (.slice B1 k1 d1) := (HC27.out.1 7 _ rfl).two rfl
        go_wp2_with fail
        refine (field_is _ x zw size position 6 _ ((HC27.out.1 7 _ rfl).at_) HF.out.1 (by decide) (by omega) (by omega) HY.out.fw).mono ?_
        rintro e wq28 ⟨qv28, rfl, ⟨qb28, qA28, qc28, qs28, rfl, qg28, ql28⟩, hb28⟩
        have hv28 := ((HC27.out.1.step hb28 rfl).told qg28 ql28).laid 28
        have hl28 : Below w.heap.size w (wq28.alloc (.cells #[.bool qb28, .slice qA28 qs28.length qc28] 28)) := (below_then HC27.out.2 hb28).alloc (Nat.le_trans HC27.out.2.size hb28.size) _
        obtain ⟨Wq28, hW28⟩ : ∃ W : World, W = wq28.alloc (.cells #[.bool qb28, .slice qA28 qs28.length qc28] 28) := ⟨_, rfl⟩
        obtain ⟨rq28, hr28⟩ : ∃ r : Nat, r = wq28.heap.size := ⟨_, rfl⟩
        rw [← hW28] at hv28 hl28
        rw [← hr28] at hv28
        have HC28 := Lib.hid (And.intro hv28 hl28)
        have HW28 := Lib.hid hW28
        have HR28 := Lib.hid hr28
        clear px0 px1
        clear hv28 hl28 hW28 hr28 qg28 ql28 hb28 HC27
        go_upto_region 15 with fail
        rw [← HW28.out, ← HR28.out]
        clear HW28 HR28
        obtain ⟨px0, px1⟩ : Two Wq28 r8 (.bool b1) (.slice B1 k1 d1) := (HC28.out.1 8 _ rfl).two rfl
        obtain ⟨pown0, pown1⟩ : Two Wq28 rq28 (.bool qb28) (.slice qA28 qs28.length qc28) := (HC28.out.1 0 _ rfl).two rfl
        go_wp2_with fail
        refine (deposit_is _ _ x zw x size position 8 _ ((HC28.out.1 8 _ rfl).at_) ((HC28.out.1 0 _ rfl).at_) (HF.out.1.up (by decide)) HY.out.fitw (by decide) (by omega) (by omega) HY.out.back).mono ?_
        rintro e wq29 ⟨qv29, rfl, ⟨qb29, qA29, qc29, qs29, rfl, qg29, ql29⟩, hb29⟩
        have hv29 := ((HC28.out.1.step hb29 rfl).told qg29 ql29).laid 28
        have hl29 : Below w.heap.size w (wq29.alloc (.cells #[.bool qb29, .slice qA29 qs29.length qc29] 28)) := (below_then HC28.out.2 hb29).alloc (Nat.le_trans HC28.out.2.size hb29.size) _
        obtain ⟨Wq29, hW29⟩ : ∃ W : World, W = wq29.alloc (.cells #[.bool qb29, .slice qA29 qs29.length qc29] 28) := ⟨_, rfl⟩
        obtain ⟨rq29, hr29⟩ : ∃ r : Nat, r = wq29.heap.size := ⟨_, rfl⟩
        rw [← hW29] at hv29 hl29
        rw [← hr29] at hv29
        have HC29 := Lib.hid (And.intro hv29 hl29)
        have HW29 := Lib.hid hW29
        have HR29 := Lib.hid hr29
        clear px0 px1 pown0 pown1
        clear hv29 hl29 hW29 hr29 qg29 ql29 hb29 HC28
        go_upto_region 16 with fail
        rw [← HW29.out, ← HR29.out]
        clear HW29 HR29
        obtain ⟨px0, px1⟩ : Two Wq29 r8 (.bool b1) (.slice B1 k1 d1) := (HC29.out.1 9 _ rfl).two rfl
        obtain ⟨py0, py1⟩ : Two Wq29 r9 (.bool b2) (.slice B2 k2 d2) := (HC29.out.1 8 _ rfl).two rfl
        go_wp2_with fail
        refine (boole_is o16 _ _ x y zz 6 _ HY.out.lo ((HC29.out.1 9 _ rfl).at_) ((HC29.out.1 8 _ rfl).at_) (by decide) HF.out.1 HF.out.2 HY.out.bz).mono ?_
        rintro e wq30 ⟨qv30, rfl, ⟨qb30, qA30, qc30, qs30, rfl, qg30, ql30⟩, hb30⟩
        have hv30 := ((HC29.out.1.step hb30 rfl).told qg30 ql30).laid 28
        have hl30 : Below w.heap.size w (wq30.alloc (.cells #[.bool qb30, .slice qA30 qs30.length qc30] 28)) := (below_then HC29.out.2 hb30).alloc (Nat.le_trans HC29.out.2.size hb30.size) _
        obtain ⟨Wq30, hW30⟩ : ∃ W : World, W = wq30.alloc (.cells #[.bool qb30, .slice qA30 qs30.length qc30] 28) := ⟨_, rfl⟩
        obtain ⟨rq30, hr30⟩ : ∃ r : Nat, r = wq30.heap.size := ⟨_, rfl⟩
        rw [← hW30] at hv30 hl30
        rw [← hr30] at hv30
        have HC30 := Lib.hid (And.intro hv30 hl30)
        have HW30 := Lib.hid hW30
        have HR30 := Lib.hid hr30
        clear px0 px1 py0 py1
        clear hv30 hl30 hW30 hr30 qg30 ql30 hb30 HC29
        go_upto_region 17 with fail
        rw [← HW30.out, ← HR30.out]
        clear HW30 HR30
        have hmax : ∀ w : World, (Builtin.max_ #[44, 44, 44, 44, 44, 44] 44 #[.int .i64 0, .int .i64 0, .int .i64 0, .int .i64 0, .int .i64 0, .int .i64 0]).run Try.prog w = .ok (.int .i64 0) w := fun _ => by kernel_rfl
        obtain ⟨pu0, pu1⟩ : Two Wq30 rq26 (.bool qb26) (.slice qA26 qs26.length qc26) := (HC30.out.1 4 _ rfl).two rfl
        obtain ⟨pv0, pv1⟩ : Two Wq30 rq27 (.bool qb27) (.slice qA27 qs27.length qc27) := (HC30.out.1 3 _ rfl).two rfl
        go_wp2_with fail
        refine (same_true _ _ zu zu 8 _ ((HC30.out.1 4 _ rfl).at_) ((HC30.out.1 3 _ rfl).at_) (by decide) HY.out.fitu HY.out.fitu rfl).mono ?_
        rintro e wq31 ⟨rfl, hb31⟩
        have HC31 := Lib.hid (And.intro (HC30.out.1.step hb31 rfl) (below_then HC30.out.2 hb31))
        clear pu0 pu1 pv0 pv1
        clear hb31 HC30
        obtain ⟨pback0, pback1⟩ : Two wq31 rq29 (.bool qb29) (.slice qA29 qs29.length qc29) := (HC31.out.1 1 _ rfl).two rfl
        obtain ⟨px0, px1⟩ : Two wq31 r8 (.bool b1) (.slice B1 k1 d1) := (HC31.out.1 10 _ rfl).two rfl
        go_wp2_with fail
        refine (same_true _ _ x x 6 _ ((HC31.out.1 1 _ rfl).at_) ((HC31.out.1 10 _ rfl).at_) (by decide) HF.out.1 HF.out.1 rfl).mono ?_
        rintro e wq32 ⟨rfl, hb32⟩
        have HC32 := Lib.hid (And.intro (HC31.out.1.step hb32 rfl) (below_then HC31.out.2 hb32))
        clear pback0 pback1 px0 px1
        clear hb32 HC31
        clear hmax
        obtain ⟨nb, hnb⟩ : ∃ n, bit % 300 = n := ⟨_, rfl⟩
        have hnb1 : (bit : Int) % 300 = (nb : Int) := by omega
        have hnb2 : nb < 300 := by omega
        obtain ⟨bx, hbx⟩ : ∃ b, bitZ x nb = b := ⟨_, rfl⟩
        obtain ⟨bY, hby⟩ : ∃ b, bitZ y nb = b := ⟨_, rfl⟩
        have HB := Lib.hid (And.intro hbx hby)
        clear hnb hbx hby
        go_upto_region 21 with fail
        obtain ⟨px0, px1⟩ : Two wq32 r8 (.bool b1) (.slice B1 k1 d1) := (HC32.out.1 10 _ rfl).two rfl
        go_wp2_with fail
        refine (ibit_is _ x nb bx 6 _ ((HC32.out.1 10 _ rfl).at_) HF.out.1 (by decide) (by omega) HB.out.1).mono ?_
        rintro e wq33 ⟨rfl, hb33⟩
        have HC33 := Lib.hid (And.intro (HC32.out.1.step hb33 rfl) (below_then HC32.out.2 hb33))
        clear px0 px1
        clear hb33 HC32
        go_upto_if 174 with fail
        go_cut [34] (fun s34 wx => s34 = .int .i64 ((2 * bx.toNat : Nat) : Int) ∧ ∃ W : World, W = wx ∧ Vars W [⟨true, rq30, qb30, qA30, qs30.length, qc30, zz⟩, ⟨true, rq29, qb29, qA29, qs29.length, qc29, x⟩, ⟨true, rq28, qb28, qA28, qs28.length, qc28, zw⟩, ⟨true, rq27, qb27, qA27, qs27.length, qc27, zu⟩, ⟨true, rq26, qb26, qA26, qs26.length, qc26, zu⟩, ⟨true, rq25, qb25, qA25, qs25.length, qc25, zd⟩, ⟨true, ro, bo, Ao, no, co, zo⟩, ⟨true, rq2, qb2, qA2, qs2.length, qc2, za⟩, ⟨true, rq1, qb1, qA1, qs1.length, qc1, zx⟩, ⟨true, r9, b2, B2, k2, d2, y⟩, ⟨true, r8, b1, B1, k1, d1, x⟩] ∧ Below w.heap.size w W)
        case first => as_aux_lemma =>
          rcases bx with _ | _
          case false =>
            go_wp2
            go_meet
            exact ⟨by first | rfl | go_num, _, rfl, HC33.out.1, HC33.out.2⟩
          case true =>
            go_wp2
            go_meet
            exact ⟨by first | rfl | go_num, _, rfl, HC33.out.1, HC33.out.2⟩
        case rest =>
          obtain ⟨rfl, Wq34, rfl, hvs, hbl⟩ := hcut
          have HC34 := Lib.hid (And.intro hvs hbl)
          clear hvs hbl HC33
          have HQ := Lib.hid (pat_pair bx bY)
          have hq1 : 2 * bx.toNat ≤ 2 := by have := HQ.out; omega
          obtain ⟨q, hq⟩ : ∃ q, 2 * bx.toNat = q := ⟨_, rfl⟩
          rw [hq] at hq1 ⊢
          have HQ2 := Lib.hid hq
          clear hq
          obtain ⟨py0, py1⟩ : Two Wq34 r9 (.bool b2) (.slice B2 k2 d2) := (HC34.out.1 9 _ rfl).two rfl
          go_wp2_with fail
          refine (ibit_is _ y nb bY 6 _ ((HC34.out.1 9 _ rfl).at_) HF.out.2 (by decide) (by omega) HB.out.2).mono ?_
          rintro e wq35 ⟨rfl, hb35⟩
          have HC35 := Lib.hid (And.intro (HC34.out.1.step hb35 rfl) (below_then HC34.out.2 hb35))
          clear py0 py1
          clear hb35 HC34
          go_upto_if 177 with fail
          go_cut [34] (fun s34 wx => s34 = .int .i64 ((q + bY.toNat : Nat) : Int) ∧ ∃ W : World, W = wx ∧ Vars W [⟨true, rq30, qb30, qA30, qs30.length, qc30, zz⟩, ⟨true, rq29, qb29, qA29, qs29.length, qc29, x⟩, ⟨true, rq28, qb28, qA28, qs28.length, qc28, zw⟩, ⟨true, rq27, qb27, qA27, qs27.length, qc27, zu⟩, ⟨true, rq26, qb26, qA26, qs26.length, qc26, zu⟩, ⟨true, rq25, qb25, qA25, qs25.length, qc25, zd⟩, ⟨true, ro, bo, Ao, no, co, zo⟩, ⟨true, rq2, qb2, qA2, qs2.length, qc2, za⟩, ⟨true, rq1, qb1, qA1, qs1.length, qc1, zx⟩, ⟨true, r9, b2, B2, k2, d2, y⟩, ⟨true, r8, b1, B1, k1, d1, x⟩] ∧ Below w.heap.size w W)
          case first => as_aux_lemma =>
            rcases bY with _ | _
            case false =>
              go_wp2
              go_meet
              exact ⟨by first | rfl | go_num, _, rfl, HC35.out.1, HC35.out.2⟩
            case true =>
              go_wp2
              go_meet
              exact ⟨by first | rfl | go_num, _, rfl, HC35.out.1, HC35.out.2⟩
          case rest =>
            obtain ⟨rfl, Wq36, rfl, hvs, hbl⟩ := hcut
            have HC36 := Lib.hid (And.intro hvs hbl)
            clear hvs hbl HC35
            go_upto_region 25 with fail
            obtain ⟨pz, hpz⟩ : ∃ n, q + bY.toNat = n := ⟨_, rfl⟩
            have hpz3 : pz ≤ 3 := by have := HQ.out; have := HQ2.out; omega
            rw [hpz]
            obtain ⟨bz, hbz⟩ : ∃ b, cho o16 bx bY = b := ⟨_, rfl⟩
            have hbit : bitZ zz nb = bz := by rw [← HY.out.bz, bit_boole, HB.out.1, HB.out.2]; exact hbz
            have hsel : (bits .and .i64 ((o16 : Int) / 2 ^ pz) 1 == 1) = bz := by rw [pat_bit o16 pz HY.out.lo hpz3, ← hbz, ← hpz, ← HQ2.out]; rfl
            have HBz := Lib.hid (And.intro hbit hsel)
            have p0 : (0 : Int) ≤ (pz : Int) := Int.natCast_nonneg pz
            have p1 : (0 : Int) ≤ (o16 : Int) := Int.natCast_nonneg o16
            have p2 : (o16 : Int) ≤ 15 := by have := HY.out.lo; omega
            clear hpz hbz hbit hsel
            go_cut [211] (fun s211 wx => s211 = .bool false ∧ ∃ W : World, W = wx ∧ Vars W [⟨true, rq30, qb30, qA30, qs30.length, qc30, zz⟩, ⟨true, rq29, qb29, qA29, qs29.length, qc29, x⟩, ⟨true, rq28, qb28, qA28, qs28.length, qc28, zw⟩, ⟨true, rq27, qb27, qA27, qs27.length, qc27, zu⟩, ⟨true, rq26, qb26, qA26, qs26.length, qc26, zu⟩, ⟨true, rq25, qb25, qA25, qs25.length, qc25, zd⟩, ⟨true, ro, bo, Ao, no, co, zo⟩, ⟨true, rq2, qb2, qA2, qs2.length, qc2, za⟩, ⟨true, rq1, qb1, qA1, qs1.length, qc1, zx⟩, ⟨true, r9, b2, B2, k2, d2, y⟩, ⟨true, r8, b1, B1, k1, d1, x⟩] ∧ Below w.heap.size w W)
            case first => as_aux_lemma =>
              have hsel := HBz.out.2
              have hnb3 : nb < 9223372036854775808 := by omega
              by_cases h1 : nb < position
              · have h1i : (nb : Int) < (position : Int) := by omega
                have HO := Lib.hid (show bitZ zd nb = bx from by rw [← HY.out.dep, bit_dep, if_neg (by omega)]; exact HB.out.1)
                have ht16 : (op : Int).tmod 16 = (o16 : Int) := by rw [Int.tmod_eq_emod_of_nonneg (Int.natCast_nonneg op)]; exact ho16
                have hw16 : IntKind.i64.wrap (o16 : Int) = (o16 : Int) := IntWalk.i64_in _ (by omega)
                have hwps : IntKind.i64.wrap ((position : Int) + (size : Int)) = (position : Int) + (size : Int) := IntWalk.i64_in _ (by omega)
                have HD38 := Lib.hid (And.intro HC36.out.1.drew HC36.out.2.drew)
                refine wp_region_held_drew (S := Cells [⟨true, rq30, qb30, qA30, qs30.length, qc30, zz⟩, ⟨true, rq29, qb29, qA29, qs29.length, qc29, x⟩, ⟨true, rq28, qb28, qA28, qs28.length, qc28, zw⟩, ⟨true, rq27, qb27, qA27, qs27.length, qc27, zu⟩, ⟨true, rq26, qb26, qA26, qs26.length, qc26, zu⟩, ⟨true, rq25, qb25, qA25, qs25.length, qc25, zd⟩, ⟨true, ro, bo, Ao, no, co, zo⟩, ⟨true, rq2, qb2, qA2, qs2.length, qc2, za⟩, ⟨true, rq1, qb1, qA1, qs1.length, qc1, zx⟩, ⟨true, r9, b2, B2, k2, d2, y⟩, ⟨true, r8, b1, B1, k1, d1, x⟩]) (by kernel_rfl) (HD38.out.1.cells) (fun hH0 => ?_)
                refine wpAnyH_take (i := 0) (v := (.int .i64 (nb : Int))) rfl (by kernel_rfl) (by kernel_rfl) (by kernel_rfl) (fun _ _ _ h => h) (Or.inl ⟨by kernel_rfl, fun _ _ => by kernel_rfl⟩) hH0 ?r45
                change wpAnyH _ _ _ _ _ _ _ (Act.put _ (some 180) _) _
                simp only [Act.put, List.setIfInBounds_toArray, List.set_cons_zero, List.set_cons_succ]
                refine wpAnyH_take (i := 1) (v := (.int .i64 (position : Int))) rfl (by kernel_rfl) (by kernel_rfl) (by kernel_rfl) (fun _ _ _ h => h) (Or.inl ⟨by kernel_rfl, fun _ _ => by kernel_rfl⟩) hH0 ?r46
                change wpAnyH _ _ _ _ _ _ _ (Act.put _ (some 181) _) _
                simp only [Act.put, List.setIfInBounds_toArray, List.set_cons_zero, List.set_cons_succ]
                refine wpAnyH_take (i := 2) (v := (.bool true)) rfl (by kernel_rfl) (by kernel_rfl) (by kernel_rfl) (fun _ _ _ h => h) (Or.inl ⟨by kernel_rfl, fun w0 hS0 => by go_simp⟩) hH0 ?r47
                change wpAnyH _ _ _ _ _ _ _ (Act.put _ (some 182) _) _
                simp only [Act.put, List.setIfInBounds_toArray, List.set_cons_zero, List.set_cons_succ]
                refine wpAnyH_take (i := 3) (v := (.bool true)) rfl (by kernel_rfl) (by kernel_rfl) (by kernel_rfl) (fun _ _ _ h => h) (Or.inl ⟨by kernel_rfl, fun _ _ => by kernel_rfl⟩) hH0 ?r48
                change wpAnyH _ _ _ _ _ _ _ (Act.put _ (some 183) _) _
                simp only [Act.put, List.setIfInBounds_toArray, List.set_cons_zero, List.set_cons_succ]
                refine wpAnyH_take (i := 4) (v := undef) rfl (by kernel_rfl) (by kernel_rfl) (by kernel_rfl) (fun _ _ _ h => h) (Or.inr ⟨by kernel_rfl, rfl⟩) hH0 ?r49
                change wpAnyH _ _ _ _ _ _ _ (Act.put _ (some 184) _) _
                simp only [Act.put, List.setIfInBounds_toArray, List.set_cons_zero, List.set_cons_succ]
                refine wpAnyH_take (i := 5) (v := undef) rfl (by kernel_rfl) (by kernel_rfl) (by kernel_rfl) (fun _ _ _ h => h) (Or.inr ⟨by kernel_rfl, rfl⟩) hH0 ?r50
                change wpAnyH _ _ _ _ _ _ _ (Act.put _ (some 185) _) _
                simp only [Act.put, List.setIfInBounds_toArray, List.set_cons_zero, List.set_cons_succ]
                refine wpAnyH_take (i := 6) (v := undef) rfl (by kernel_rfl) (by kernel_rfl) (by kernel_rfl) (fun _ _ _ h => h) (Or.inr ⟨by kernel_rfl, rfl⟩) hH0 ?r51
                change wpAnyH _ _ _ _ _ _ _ (Act.put _ (some 186) _) _
                simp only [Act.put, List.setIfInBounds_toArray, List.set_cons_zero, List.set_cons_succ]
                refine wpAnyH_take (i := 7) (v := undef) rfl (by kernel_rfl) (by kernel_rfl) (by kernel_rfl) (fun _ _ _ h => h) (Or.inr ⟨by kernel_rfl, rfl⟩) hH0 ?r52
                change wpAnyH _ _ _ _ _ _ _ (Act.put _ (some 187) _) _
                simp only [Act.put, List.setIfInBounds_toArray, List.set_cons_zero, List.set_cons_succ]
                refine wpAnyH_take (i := 8) (v := undef) rfl (by kernel_rfl) (by kernel_rfl) (by kernel_rfl) (fun _ _ _ h => h) (Or.inr ⟨by kernel_rfl, rfl⟩) hH0 ?r53
                change wpAnyH _ _ _ _ _ _ _ (Act.put _ (some 188) _) _
                simp only [Act.put, List.setIfInBounds_toArray, List.set_cons_zero, List.set_cons_succ]
                refine wpAnyH_take (i := 9) (v := (Value.bool true)) rfl (by kernel_rfl) (by kernel_rfl) (by kernel_rfl) (fun _ _ _ h => h) (Or.inl ⟨by kernel_rfl, fun _ _ => by kernel_rfl⟩) hH0 ?r54
                change wpAnyH _ _ _ _ _ _ _ (Act.put _ (some 189) _) _
                simp only [Act.put, List.setIfInBounds_toArray, List.set_cons_zero, List.set_cons_succ]
                refine wpAnyH_take (i := 10) (v := (Value.bool true)) rfl (by kernel_rfl) (by kernel_rfl) (by kernel_rfl) (fun _ _ _ h => h) (Or.inl ⟨by kernel_rfl, fun _ _ => by kernel_rfl⟩) hH0 ?r55
                change wpAnyH _ _ _ _ _ _ _ (Act.put _ (some 190) _) _
                simp only [Act.put, List.setIfInBounds_toArray, List.set_cons_zero, List.set_cons_succ]
                refine wpAnyH_take (i := 11) (v := (.agg #[.bool qb25, .slice qA25 qs25.length qc25])) rfl (by kernel_rfl) (by kernel_rfl) (by kernel_rfl) (fun _ _ _ h => h) (Or.inl ⟨by kernel_rfl, fun w0 hS0 => run_load (hS0 5 _ rfl rfl) (.tmp 23) (by kernel_rfl) (by kernel_rfl)⟩) hH0 ?r56
                change wpAnyH _ _ _ _ _ _ _ (Act.put _ (some 191) _) _
                simp only [Act.put, List.setIfInBounds_toArray, List.set_cons_zero, List.set_cons_succ]
                refine wpAnyH_take (i := 12) (v := (.int .i64 (nb : Int))) rfl (by kernel_rfl) (by kernel_rfl) (by kernel_rfl) (fun _ _ _ h => h) (Or.inl ⟨by kernel_rfl, fun _ _ => by kernel_rfl⟩) hH0 ?r57
                change wpAnyH _ _ _ _ _ _ _ (Act.put _ (some 192) _) _
                simp only [Act.put, List.setIfInBounds_toArray, List.set_cons_zero, List.set_cons_succ]
                refine wpAnyH_take (i := 14) (v := (.agg #[.bool b1, .slice B1 k1 d1])) rfl (by kernel_rfl) (by kernel_rfl) (by kernel_rfl) (fun _ _ _ h => h) (Or.inl ⟨by kernel_rfl, fun w0 hS0 => run_load (hS0 10 _ rfl rfl) (.tmp 14) (by kernel_rfl) (by kernel_rfl)⟩) hH0 ?r58
                change wpAnyH _ _ _ _ _ _ _ (Act.put _ (some 194) _) _
                simp only [Act.put, List.setIfInBounds_toArray, List.set_cons_zero, List.set_cons_succ]
                refine wpAnyH_take (i := 15) (v := (.int .i64 (nb : Int))) rfl (by kernel_rfl) (by kernel_rfl) (by kernel_rfl) (fun _ _ _ h => h) (Or.inl ⟨by kernel_rfl, fun _ _ => by kernel_rfl⟩) hH0 ?r59
                change wpAnyH _ _ _ _ _ _ _ (Act.put _ (some 195) _) _
                simp only [Act.put, List.setIfInBounds_toArray, List.set_cons_zero, List.set_cons_succ]
                refine wpAnyH_ready (rs := [13]) (by kernel_rfl) (by simp) ?_
                refine AllReadyH.cons rfl (fun K hK0 => ?d60) (AllReadyH.nil)
                have hK := hK0.out
                clear hK0
                rw [if_pos (by kernel_rfl)]
                refine wp_go_call 53 #[(.agg #[.bool qb25, .slice qA25 qs25.length qc25]), (.int .i64 (nb : Int))] (fun _ => by kernel_rfl) ((ibit_is _ zd nb bx 17 _ ((HD38.out.1 5 _ rfl).at_) HY.out.fd (by decide) hnb3 HO.out).mono ?_)
                rintro e wq39 ⟨rfl, hb39⟩
                have HD39 := Lib.hid (And.intro (HD38.out.1.step hb39 rfl) (below_then HD38.out.2 hb39))
                refine ⟨(.bool bx), rfl, hK _ _ (HD39.out.1.cells) (fun hH39 => ?_)⟩
                clear hK K hH0
                change wpAnyH _ _ _ _ _ _ _ (Act.put _ (some 193) _) _
                simp only [Act.put, List.setIfInBounds_toArray, List.set_cons_zero, List.set_cons_succ]
                refine wpAnyH_ready (rs := [16]) (by kernel_rfl) (by simp) ?_
                refine AllReadyH.cons rfl (fun K hK0 => ?d61) (AllReadyH.nil)
                have hK := hK0.out
                clear hK0
                rw [if_pos (by kernel_rfl)]
                refine wp_go_call 53 #[(.agg #[.bool b1, .slice B1 k1 d1]), (.int .i64 (nb : Int))] (fun _ => by kernel_rfl) ((ibit_is _ x nb bx 6 _ ((HD39.out.1 10 _ rfl).at_) HF.out.1 (by decide) hnb3 HB.out.1).mono ?_)
                rintro e wq40 ⟨rfl, hb40⟩
                have HD40 := Lib.hid (And.intro (HD39.out.1.step hb40 rfl) (below_then HD39.out.2 hb40))
                refine ⟨(.bool bx), rfl, hK _ _ (HD40.out.1.cells) (fun hH40 => ?_)⟩
                clear hK K hH39
                change wpAnyH _ _ _ _ _ _ _ (Act.put _ (some 196) _) _
                simp only [Act.put, List.setIfInBounds_toArray, List.set_cons_zero, List.set_cons_succ]
                refine wpAnyH_take (i := 17) (v := (.bool false)) rfl (by kernel_rfl) (by kernel_rfl) (by kernel_rfl) (fun _ _ _ h => h) (Or.inl ⟨by kernel_rfl, fun w0 hS0 => by go_simp⟩) hH40 ?r62
                change wpAnyH _ _ _ _ _ _ _ (Act.put _ (some 197) _) _
                simp only [Act.put, List.setIfInBounds_toArray, List.set_cons_zero, List.set_cons_succ]
                refine wpAnyH_take (i := 18) (v := (.bool false)) rfl (by kernel_rfl) (by kernel_rfl) (by kernel_rfl) (fun _ _ _ h => h) (Or.inl ⟨by kernel_rfl, fun _ _ => by kernel_rfl⟩) hH40 ?r63
                change wpAnyH _ _ _ _ _ _ _ (Act.put _ (some 198) _) _
                simp only [Act.put, List.setIfInBounds_toArray, List.set_cons_zero, List.set_cons_succ]
                refine wpAnyH_take (i := 19) (v := (.bool false)) rfl (by kernel_rfl) (by kernel_rfl) (by kernel_rfl) (fun _ _ _ h => h) (Or.inl ⟨by kernel_rfl, fun _ _ => by kernel_rfl⟩) hH40 ?r64
                change wpAnyH _ _ _ _ _ _ _ (Act.put _ (some 199) _) _
                simp only [Act.put, List.setIfInBounds_toArray, List.set_cons_zero, List.set_cons_succ]
                refine wpAnyH_take (i := 20) (v := (.agg #[.bool qb30, .slice qA30 qs30.length qc30])) rfl (by kernel_rfl) (by kernel_rfl) (by kernel_rfl) (fun _ _ _ h => h) (Or.inl ⟨by kernel_rfl, fun w0 hS0 => run_load (hS0 0 _ rfl rfl) (.tmp 31) (by kernel_rfl) (by kernel_rfl)⟩) hH40 ?r65
                change wpAnyH _ _ _ _ _ _ _ (Act.put _ (some 200) _) _
                simp only [Act.put, List.setIfInBounds_toArray, List.set_cons_zero, List.set_cons_succ]
                refine wpAnyH_take (i := 21) (v := (.int .i64 (nb : Int))) rfl (by kernel_rfl) (by kernel_rfl) (by kernel_rfl) (fun _ _ _ h => h) (Or.inl ⟨by kernel_rfl, fun _ _ => by kernel_rfl⟩) hH40 ?r66
                change wpAnyH _ _ _ _ _ _ _ (Act.put _ (some 201) _) _
                simp only [Act.put, List.setIfInBounds_toArray, List.set_cons_zero, List.set_cons_succ]
                refine wpAnyH_take (i := 23) (v := (.int .u8 (op : Int))) rfl (by kernel_rfl) (by kernel_rfl) (by kernel_rfl) (fun _ _ _ h => h) (Or.inl ⟨by kernel_rfl, fun _ _ => by kernel_rfl⟩) hH40 ?r67
                change wpAnyH _ _ _ _ _ _ _ (Act.put _ (some 203) _) _
                simp only [Act.put, List.setIfInBounds_toArray, List.set_cons_zero, List.set_cons_succ]
                refine wpAnyH_take (i := 24) (v := (.int .u8 (o16 : Int))) rfl (by kernel_rfl) (by kernel_rfl) (by kernel_rfl) (fun _ _ _ h => h) (Or.inl ⟨by kernel_rfl, fun w0 hS0 => by go_simp⟩) hH40 ?r68
                change wpAnyH _ _ _ _ _ _ _ (Act.put _ (some 204) _) _
                simp only [Act.put, List.setIfInBounds_toArray, List.set_cons_zero, List.set_cons_succ]
                refine wpAnyH_take (i := 25) (v := (.int .i64 (o16 : Int))) rfl (by kernel_rfl) (by kernel_rfl) (by kernel_rfl) (fun _ _ _ h => h) (Or.inl ⟨by kernel_rfl, fun w0 hS0 => by go_simp⟩) hH40 ?r69
                change wpAnyH _ _ _ _ _ _ _ (Act.put _ (some 205) _) _
                simp only [Act.put, List.setIfInBounds_toArray, List.set_cons_zero, List.set_cons_succ]
                refine wpAnyH_take (i := 26) (v := (.int .i64 (pz : Int))) rfl (by kernel_rfl) (by kernel_rfl) (by kernel_rfl) (fun _ _ _ h => h) (Or.inl ⟨by kernel_rfl, fun _ _ => by kernel_rfl⟩) hH40 ?r70
                change wpAnyH _ _ _ _ _ _ _ (Act.put _ (some 206) _) _
                simp only [Act.put, List.setIfInBounds_toArray, List.set_cons_zero, List.set_cons_succ]
                refine wpAnyH_take (i := 27) (v := (.int .i64 ((o16 : Int) / 2 ^ pz))) rfl (by kernel_rfl) (by kernel_rfl) (by kernel_rfl) (fun _ _ _ h => h) (Or.inl ⟨by kernel_rfl, fun w0 hS0 => by go_simp⟩) hH40 ?r71
                change wpAnyH _ _ _ _ _ _ _ (Act.put _ (some 207) _) _
                simp only [Act.put, List.setIfInBounds_toArray, List.set_cons_zero, List.set_cons_succ]
                refine wpAnyH_take (i := 28) (v := (.int .i64 (bits .and .i64 ((o16 : Int) / 2 ^ pz) 1))) rfl (by kernel_rfl) (by kernel_rfl) (by kernel_rfl) (fun _ _ _ h => h) (Or.inl ⟨by kernel_rfl, fun w0 hS0 => by go_simp⟩) hH40 ?r72
                change wpAnyH _ _ _ _ _ _ _ (Act.put _ (some 208) _) _
                simp only [Act.put, List.setIfInBounds_toArray, List.set_cons_zero, List.set_cons_succ]
                refine wpAnyH_take (i := 29) (v := (.bool bz)) rfl (by kernel_rfl) (by kernel_rfl) (by kernel_rfl) (fun _ _ _ h => h) (Or.inl ⟨by kernel_rfl, fun w0 hS0 => by go_simp⟩) hH40 ?r73
                change wpAnyH _ _ _ _ _ _ _ (Act.put _ (some 209) _) _
                simp only [Act.put, List.setIfInBounds_toArray, List.set_cons_zero, List.set_cons_succ]
                refine wpAnyH_ready (rs := [22]) (by kernel_rfl) (by simp) ?_
                refine AllReadyH.cons rfl (fun K hK0 => ?d74) (AllReadyH.nil)
                have hK := hK0.out
                clear hK0
                rw [if_pos (by kernel_rfl)]
                refine wp_go_call 53 #[(.agg #[.bool qb30, .slice qA30 qs30.length qc30]), (.int .i64 (nb : Int))] (fun _ => by kernel_rfl) ((ibit_is _ zz nb bz 7 _ ((HD40.out.1 0 _ rfl).at_) HY.out.fz (by decide) hnb3 HBz.out.1).mono ?_)
                rintro e wq41 ⟨rfl, hb41⟩
                have HD41 := Lib.hid (And.intro (HD40.out.1.step hb41 rfl) (below_then HD40.out.2 hb41))
                refine ⟨(.bool bz), rfl, hK _ _ (HD41.out.1.cells) (fun hH41 => ?_)⟩
                clear hK K hH40
                change wpAnyH _ _ _ _ _ _ _ (Act.put _ (some 202) _) _
                simp only [Act.put, List.setIfInBounds_toArray, List.set_cons_zero, List.set_cons_succ]
                refine wpAnyH_take (i := 30) (v := (.bool false)) rfl (by kernel_rfl) (by kernel_rfl) (by kernel_rfl) (fun _ _ _ h => h) (Or.inl ⟨by kernel_rfl, fun w0 hS0 => by go_simp⟩) hH41 ?r75
                change wpAnyH _ _ _ _ _ _ _ (Act.put _ (some 210) _) _
                simp only [Act.put, List.setIfInBounds_toArray, List.set_cons_zero, List.set_cons_succ]
                refine wpAnyH_take (i := 31) (v := (.bool false)) rfl (by kernel_rfl) (by kernel_rfl) (by kernel_rfl) (fun _ _ _ h => h) (Or.inl ⟨by kernel_rfl, fun _ _ => by kernel_rfl⟩) hH41 ?r76
                change wpAnyH _ _ _ _ _ _ _ (Act.put _ (some 211) _) _
                simp only [Act.put, List.setIfInBounds_toArray, List.set_cons_zero, List.set_cons_succ]
                refine wpAnyH_done (by kernel_rfl) ?_ _
                go_wp2
                go_meet
                exact ⟨rfl, _, rfl, HD41.out.1, HD41.out.2⟩
              · have h1i : ¬ (nb : Int) < (position : Int) := by omega
                by_cases h2 : position + size ≤ nb
                · have h2i : (position : Int) + (size : Int) ≤ (nb : Int) := by omega
                  have HO := Lib.hid (show bitZ zd nb = bx from by rw [← HY.out.dep, bit_dep, if_neg (by omega)]; exact HB.out.1)
                  have ht16 : (op : Int).tmod 16 = (o16 : Int) := by rw [Int.tmod_eq_emod_of_nonneg (Int.natCast_nonneg op)]; exact ho16
                  have hw16 : IntKind.i64.wrap (o16 : Int) = (o16 : Int) := IntWalk.i64_in _ (by omega)
                  have hwps : IntKind.i64.wrap ((position : Int) + (size : Int)) = (position : Int) + (size : Int) := IntWalk.i64_in _ (by omega)
                  have HD42 := Lib.hid (And.intro HC36.out.1.drew HC36.out.2.drew)
                  refine wp_region_held_drew (S := Cells [⟨true, rq30, qb30, qA30, qs30.length, qc30, zz⟩, ⟨true, rq29, qb29, qA29, qs29.length, qc29, x⟩, ⟨true, rq28, qb28, qA28, qs28.length, qc28, zw⟩, ⟨true, rq27, qb27, qA27, qs27.length, qc27, zu⟩, ⟨true, rq26, qb26, qA26, qs26.length, qc26, zu⟩, ⟨true, rq25, qb25, qA25, qs25.length, qc25, zd⟩, ⟨true, ro, bo, Ao, no, co, zo⟩, ⟨true, rq2, qb2, qA2, qs2.length, qc2, za⟩, ⟨true, rq1, qb1, qA1, qs1.length, qc1, zx⟩, ⟨true, r9, b2, B2, k2, d2, y⟩, ⟨true, r8, b1, B1, k1, d1, x⟩]) (by kernel_rfl) (HD42.out.1.cells) (fun hH0 => ?_)
                  refine wpAnyH_take (i := 0) (v := (.int .i64 (nb : Int))) rfl (by kernel_rfl) (by kernel_rfl) (by kernel_rfl) (fun _ _ _ h => h) (Or.inl ⟨by kernel_rfl, fun _ _ => by kernel_rfl⟩) hH0 ?r77
                  change wpAnyH _ _ _ _ _ _ _ (Act.put _ (some 180) _) _
                  simp only [Act.put, List.setIfInBounds_toArray, List.set_cons_zero, List.set_cons_succ]
                  refine wpAnyH_take (i := 1) (v := (.int .i64 (position : Int))) rfl (by kernel_rfl) (by kernel_rfl) (by kernel_rfl) (fun _ _ _ h => h) (Or.inl ⟨by kernel_rfl, fun _ _ => by kernel_rfl⟩) hH0 ?r78
                  change wpAnyH _ _ _ _ _ _ _ (Act.put _ (some 181) _) _
                  simp only [Act.put, List.setIfInBounds_toArray, List.set_cons_zero, List.set_cons_succ]
                  refine wpAnyH_take (i := 2) (v := (.bool false)) rfl (by kernel_rfl) (by kernel_rfl) (by kernel_rfl) (fun _ _ _ h => h) (Or.inl ⟨by kernel_rfl, fun w0 hS0 => by go_simp⟩) hH0 ?r79
                  change wpAnyH _ _ _ _ _ _ _ (Act.put _ (some 182) _) _
                  simp only [Act.put, List.setIfInBounds_toArray, List.set_cons_zero, List.set_cons_succ]
                  refine wpAnyH_take (i := 3) (v := (.bool false)) rfl (by kernel_rfl) (by kernel_rfl) (by kernel_rfl) (fun _ _ _ h => h) (Or.inl ⟨by kernel_rfl, fun _ _ => by kernel_rfl⟩) hH0 ?r80
                  change wpAnyH _ _ _ _ _ _ _ (Act.put _ (some 183) _) _
                  simp only [Act.put, List.setIfInBounds_toArray, List.set_cons_zero, List.set_cons_succ]
                  refine wpAnyH_take (i := 4) (v := (.int .i64 (nb : Int))) rfl (by kernel_rfl) (by kernel_rfl) (by kernel_rfl) (fun _ _ _ h => h) (Or.inl ⟨by kernel_rfl, fun _ _ => by kernel_rfl⟩) hH0 ?r81
                  change wpAnyH _ _ _ _ _ _ _ (Act.put _ (some 184) _) _
                  simp only [Act.put, List.setIfInBounds_toArray, List.set_cons_zero, List.set_cons_succ]
                  refine wpAnyH_take (i := 5) (v := (.int .i64 (position : Int))) rfl (by kernel_rfl) (by kernel_rfl) (by kernel_rfl) (fun _ _ _ h => h) (Or.inl ⟨by kernel_rfl, fun _ _ => by kernel_rfl⟩) hH0 ?r82
                  change wpAnyH _ _ _ _ _ _ _ (Act.put _ (some 185) _) _
                  simp only [Act.put, List.setIfInBounds_toArray, List.set_cons_zero, List.set_cons_succ]
                  refine wpAnyH_take (i := 6) (v := (.int .i64 (size : Int))) rfl (by kernel_rfl) (by kernel_rfl) (by kernel_rfl) (fun _ _ _ h => h) (Or.inl ⟨by kernel_rfl, fun _ _ => by kernel_rfl⟩) hH0 ?r83
                  change wpAnyH _ _ _ _ _ _ _ (Act.put _ (some 186) _) _
                  simp only [Act.put, List.setIfInBounds_toArray, List.set_cons_zero, List.set_cons_succ]
                  refine wpAnyH_take (i := 7) (v := (.int .i64 ((position : Int) + (size : Int)))) rfl (by kernel_rfl) (by kernel_rfl) (by kernel_rfl) (fun _ _ _ h => h) (Or.inl ⟨by kernel_rfl, fun w0 hS0 => by go_simp⟩) hH0 ?r84
                  change wpAnyH _ _ _ _ _ _ _ (Act.put _ (some 187) _) _
                  simp only [Act.put, List.setIfInBounds_toArray, List.set_cons_zero, List.set_cons_succ]
                  refine wpAnyH_take (i := 8) (v := (.bool true)) rfl (by kernel_rfl) (by kernel_rfl) (by kernel_rfl) (fun _ _ _ h => h) (Or.inl ⟨by kernel_rfl, fun w0 hS0 => by go_simp⟩) hH0 ?r85
                  change wpAnyH _ _ _ _ _ _ _ (Act.put _ (some 188) _) _
                  simp only [Act.put, List.setIfInBounds_toArray, List.set_cons_zero, List.set_cons_succ]
                  refine wpAnyH_take (i := 9) (v := (.bool true)) rfl (by kernel_rfl) (by kernel_rfl) (by kernel_rfl) (fun _ _ _ h => h) (Or.inl ⟨by kernel_rfl, fun _ _ => by kernel_rfl⟩) hH0 ?r86
                  change wpAnyH _ _ _ _ _ _ _ (Act.put _ (some 189) _) _
                  simp only [Act.put, List.setIfInBounds_toArray, List.set_cons_zero, List.set_cons_succ]
                  refine wpAnyH_take (i := 10) (v := (.bool true)) rfl (by kernel_rfl) (by kernel_rfl) (by kernel_rfl) (fun _ _ _ h => h) (Or.inl ⟨by kernel_rfl, fun _ _ => by kernel_rfl⟩) hH0 ?r87
                  change wpAnyH _ _ _ _ _ _ _ (Act.put _ (some 190) _) _
                  simp only [Act.put, List.setIfInBounds_toArray, List.set_cons_zero, List.set_cons_succ]
                  refine wpAnyH_take (i := 11) (v := (.agg #[.bool qb25, .slice qA25 qs25.length qc25])) rfl (by kernel_rfl) (by kernel_rfl) (by kernel_rfl) (fun _ _ _ h => h) (Or.inl ⟨by kernel_rfl, fun w0 hS0 => run_load (hS0 5 _ rfl rfl) (.tmp 23) (by kernel_rfl) (by kernel_rfl)⟩) hH0 ?r88
                  change wpAnyH _ _ _ _ _ _ _ (Act.put _ (some 191) _) _
                  simp only [Act.put, List.setIfInBounds_toArray, List.set_cons_zero, List.set_cons_succ]
                  refine wpAnyH_take (i := 12) (v := (.int .i64 (nb : Int))) rfl (by kernel_rfl) (by kernel_rfl) (by kernel_rfl) (fun _ _ _ h => h) (Or.inl ⟨by kernel_rfl, fun _ _ => by kernel_rfl⟩) hH0 ?r89
                  change wpAnyH _ _ _ _ _ _ _ (Act.put _ (some 192) _) _
                  simp only [Act.put, List.setIfInBounds_toArray, List.set_cons_zero, List.set_cons_succ]
                  refine wpAnyH_take (i := 14) (v := (.agg #[.bool b1, .slice B1 k1 d1])) rfl (by kernel_rfl) (by kernel_rfl) (by kernel_rfl) (fun _ _ _ h => h) (Or.inl ⟨by kernel_rfl, fun w0 hS0 => run_load (hS0 10 _ rfl rfl) (.tmp 14) (by kernel_rfl) (by kernel_rfl)⟩) hH0 ?r90
                  change wpAnyH _ _ _ _ _ _ _ (Act.put _ (some 194) _) _
                  simp only [Act.put, List.setIfInBounds_toArray, List.set_cons_zero, List.set_cons_succ]
                  refine wpAnyH_take (i := 15) (v := (.int .i64 (nb : Int))) rfl (by kernel_rfl) (by kernel_rfl) (by kernel_rfl) (fun _ _ _ h => h) (Or.inl ⟨by kernel_rfl, fun _ _ => by kernel_rfl⟩) hH0 ?r91
                  change wpAnyH _ _ _ _ _ _ _ (Act.put _ (some 195) _) _
                  simp only [Act.put, List.setIfInBounds_toArray, List.set_cons_zero, List.set_cons_succ]
                  refine wpAnyH_ready (rs := [13]) (by kernel_rfl) (by simp) ?_
                  refine AllReadyH.cons rfl (fun K hK0 => ?d92) (AllReadyH.nil)
                  have hK := hK0.out
                  clear hK0
                  rw [if_pos (by kernel_rfl)]
                  refine wp_go_call 53 #[(.agg #[.bool qb25, .slice qA25 qs25.length qc25]), (.int .i64 (nb : Int))] (fun _ => by kernel_rfl) ((ibit_is _ zd nb bx 17 _ ((HD42.out.1 5 _ rfl).at_) HY.out.fd (by decide) hnb3 HO.out).mono ?_)
                  rintro e wq43 ⟨rfl, hb43⟩
                  have HD43 := Lib.hid (And.intro (HD42.out.1.step hb43 rfl) (below_then HD42.out.2 hb43))
                  refine ⟨(.bool bx), rfl, hK _ _ (HD43.out.1.cells) (fun hH43 => ?_)⟩
                  clear hK K hH0
                  change wpAnyH _ _ _ _ _ _ _ (Act.put _ (some 193) _) _
                  simp only [Act.put, List.setIfInBounds_toArray, List.set_cons_zero, List.set_cons_succ]
                  refine wpAnyH_ready (rs := [16]) (by kernel_rfl) (by simp) ?_
                  refine AllReadyH.cons rfl (fun K hK0 => ?d93) (AllReadyH.nil)
                  have hK := hK0.out
                  clear hK0
                  rw [if_pos (by kernel_rfl)]
                  refine wp_go_call 53 #[(.agg #[.bool b1, .slice B1 k1 d1]), (.int .i64 (nb : Int))] (fun _ => by kernel_rfl) ((ibit_is _ x nb bx 6 _ ((HD43.out.1 10 _ rfl).at_) HF.out.1 (by decide) hnb3 HB.out.1).mono ?_)
                  rintro e wq44 ⟨rfl, hb44⟩
                  have HD44 := Lib.hid (And.intro (HD43.out.1.step hb44 rfl) (below_then HD43.out.2 hb44))
                  refine ⟨(.bool bx), rfl, hK _ _ (HD44.out.1.cells) (fun hH44 => ?_)⟩
                  clear hK K hH43
                  change wpAnyH _ _ _ _ _ _ _ (Act.put _ (some 196) _) _
                  simp only [Act.put, List.setIfInBounds_toArray, List.set_cons_zero, List.set_cons_succ]
                  refine wpAnyH_take (i := 17) (v := (.bool false)) rfl (by kernel_rfl) (by kernel_rfl) (by kernel_rfl) (fun _ _ _ h => h) (Or.inl ⟨by kernel_rfl, fun w0 hS0 => by go_simp⟩) hH44 ?r94
                  change wpAnyH _ _ _ _ _ _ _ (Act.put _ (some 197) _) _
                  simp only [Act.put, List.setIfInBounds_toArray, List.set_cons_zero, List.set_cons_succ]
                  refine wpAnyH_take (i := 18) (v := (.bool false)) rfl (by kernel_rfl) (by kernel_rfl) (by kernel_rfl) (fun _ _ _ h => h) (Or.inl ⟨by kernel_rfl, fun _ _ => by kernel_rfl⟩) hH44 ?r95
                  change wpAnyH _ _ _ _ _ _ _ (Act.put _ (some 198) _) _
                  simp only [Act.put, List.setIfInBounds_toArray, List.set_cons_zero, List.set_cons_succ]
                  refine wpAnyH_take (i := 19) (v := (.bool false)) rfl (by kernel_rfl) (by kernel_rfl) (by kernel_rfl) (fun _ _ _ h => h) (Or.inl ⟨by kernel_rfl, fun _ _ => by kernel_rfl⟩) hH44 ?r96
                  change wpAnyH _ _ _ _ _ _ _ (Act.put _ (some 199) _) _
                  simp only [Act.put, List.setIfInBounds_toArray, List.set_cons_zero, List.set_cons_succ]
                  refine wpAnyH_take (i := 20) (v := (.agg #[.bool qb30, .slice qA30 qs30.length qc30])) rfl (by kernel_rfl) (by kernel_rfl) (by kernel_rfl) (fun _ _ _ h => h) (Or.inl ⟨by kernel_rfl, fun w0 hS0 => run_load (hS0 0 _ rfl rfl) (.tmp 31) (by kernel_rfl) (by kernel_rfl)⟩) hH44 ?r97
                  change wpAnyH _ _ _ _ _ _ _ (Act.put _ (some 200) _) _
                  simp only [Act.put, List.setIfInBounds_toArray, List.set_cons_zero, List.set_cons_succ]
                  refine wpAnyH_take (i := 21) (v := (.int .i64 (nb : Int))) rfl (by kernel_rfl) (by kernel_rfl) (by kernel_rfl) (fun _ _ _ h => h) (Or.inl ⟨by kernel_rfl, fun _ _ => by kernel_rfl⟩) hH44 ?r98
                  change wpAnyH _ _ _ _ _ _ _ (Act.put _ (some 201) _) _
                  simp only [Act.put, List.setIfInBounds_toArray, List.set_cons_zero, List.set_cons_succ]
                  refine wpAnyH_take (i := 23) (v := (.int .u8 (op : Int))) rfl (by kernel_rfl) (by kernel_rfl) (by kernel_rfl) (fun _ _ _ h => h) (Or.inl ⟨by kernel_rfl, fun _ _ => by kernel_rfl⟩) hH44 ?r99
                  change wpAnyH _ _ _ _ _ _ _ (Act.put _ (some 203) _) _
                  simp only [Act.put, List.setIfInBounds_toArray, List.set_cons_zero, List.set_cons_succ]
                  refine wpAnyH_take (i := 24) (v := (.int .u8 (o16 : Int))) rfl (by kernel_rfl) (by kernel_rfl) (by kernel_rfl) (fun _ _ _ h => h) (Or.inl ⟨by kernel_rfl, fun w0 hS0 => by go_simp⟩) hH44 ?r100
                  change wpAnyH _ _ _ _ _ _ _ (Act.put _ (some 204) _) _
                  simp only [Act.put, List.setIfInBounds_toArray, List.set_cons_zero, List.set_cons_succ]
                  refine wpAnyH_take (i := 25) (v := (.int .i64 (o16 : Int))) rfl (by kernel_rfl) (by kernel_rfl) (by kernel_rfl) (fun _ _ _ h => h) (Or.inl ⟨by kernel_rfl, fun w0 hS0 => by go_simp⟩) hH44 ?r101
                  change wpAnyH _ _ _ _ _ _ _ (Act.put _ (some 205) _) _
                  simp only [Act.put, List.setIfInBounds_toArray, List.set_cons_zero, List.set_cons_succ]
                  refine wpAnyH_take (i := 26) (v := (.int .i64 (pz : Int))) rfl (by kernel_rfl) (by kernel_rfl) (by kernel_rfl) (fun _ _ _ h => h) (Or.inl ⟨by kernel_rfl, fun _ _ => by kernel_rfl⟩) hH44 ?r102
                  change wpAnyH _ _ _ _ _ _ _ (Act.put _ (some 206) _) _
                  simp only [Act.put, List.setIfInBounds_toArray, List.set_cons_zero, List.set_cons_succ]
                  refine wpAnyH_take (i := 27) (v := (.int .i64 ((o16 : Int) / 2 ^ pz))) rfl (by kernel_rfl) (by kernel_rfl) (by kernel_rfl) (fun _ _ _ h => h) (Or.inl ⟨by kernel_rfl, fun w0 hS0 => by go_simp⟩) hH44 ?r103
                  change wpAnyH _ _ _ _ _ _ _ (Act.put _ (some 207) _) _
                  simp only [Act.put, List.setIfInBounds_toArray, List.set_cons_zero, List.set_cons_succ]
                  refine wpAnyH_take (i := 28) (v := (.int .i64 (bits .and .i64 ((o16 : Int) / 2 ^ pz) 1))) rfl (by kernel_rfl) (by kernel_rfl) (by kernel_rfl) (fun _ _ _ h => h) (Or.inl ⟨by kernel_rfl, fun w0 hS0 => by go_simp⟩) hH44 ?r104
                  change wpAnyH _ _ _ _ _ _ _ (Act.put _ (some 208) _) _
                  simp only [Act.put, List.setIfInBounds_toArray, List.set_cons_zero, List.set_cons_succ]
                  refine wpAnyH_take (i := 29) (v := (.bool bz)) rfl (by kernel_rfl) (by kernel_rfl) (by kernel_rfl) (fun _ _ _ h => h) (Or.inl ⟨by kernel_rfl, fun w0 hS0 => by go_simp⟩) hH44 ?r105
                  change wpAnyH _ _ _ _ _ _ _ (Act.put _ (some 209) _) _
                  simp only [Act.put, List.setIfInBounds_toArray, List.set_cons_zero, List.set_cons_succ]
                  refine wpAnyH_ready (rs := [22]) (by kernel_rfl) (by simp) ?_
                  refine AllReadyH.cons rfl (fun K hK0 => ?d106) (AllReadyH.nil)
                  have hK := hK0.out
                  clear hK0
                  rw [if_pos (by kernel_rfl)]
                  refine wp_go_call 53 #[(.agg #[.bool qb30, .slice qA30 qs30.length qc30]), (.int .i64 (nb : Int))] (fun _ => by kernel_rfl) ((ibit_is _ zz nb bz 7 _ ((HD44.out.1 0 _ rfl).at_) HY.out.fz (by decide) hnb3 HBz.out.1).mono ?_)
                  rintro e wq45 ⟨rfl, hb45⟩
                  have HD45 := Lib.hid (And.intro (HD44.out.1.step hb45 rfl) (below_then HD44.out.2 hb45))
                  refine ⟨(.bool bz), rfl, hK _ _ (HD45.out.1.cells) (fun hH45 => ?_)⟩
                  clear hK K hH44
                  change wpAnyH _ _ _ _ _ _ _ (Act.put _ (some 202) _) _
                  simp only [Act.put, List.setIfInBounds_toArray, List.set_cons_zero, List.set_cons_succ]
                  refine wpAnyH_take (i := 30) (v := (.bool false)) rfl (by kernel_rfl) (by kernel_rfl) (by kernel_rfl) (fun _ _ _ h => h) (Or.inl ⟨by kernel_rfl, fun w0 hS0 => by go_simp⟩) hH45 ?r107
                  change wpAnyH _ _ _ _ _ _ _ (Act.put _ (some 210) _) _
                  simp only [Act.put, List.setIfInBounds_toArray, List.set_cons_zero, List.set_cons_succ]
                  refine wpAnyH_take (i := 31) (v := (.bool false)) rfl (by kernel_rfl) (by kernel_rfl) (by kernel_rfl) (fun _ _ _ h => h) (Or.inl ⟨by kernel_rfl, fun _ _ => by kernel_rfl⟩) hH45 ?r108
                  change wpAnyH _ _ _ _ _ _ _ (Act.put _ (some 211) _) _
                  simp only [Act.put, List.setIfInBounds_toArray, List.set_cons_zero, List.set_cons_succ]
                  refine wpAnyH_done (by kernel_rfl) ?_ _
                  go_wp2
                  go_meet
                  exact ⟨rfl, _, rfl, HD45.out.1, HD45.out.2⟩
                · have h2i : ¬ (position : Int) + (size : Int) ≤ (nb : Int) := by omega
                  have ht16 : (op : Int).tmod 16 = (o16 : Int) := by rw [Int.tmod_eq_emod_of_nonneg (Int.natCast_nonneg op)]; exact ho16
                  have hw16 : IntKind.i64.wrap (o16 : Int) = (o16 : Int) := IntWalk.i64_in _ (by omega)
                  have hwps : IntKind.i64.wrap ((position : Int) + (size : Int)) = (position : Int) + (size : Int) := IntWalk.i64_in _ (by omega)
                  have HD46 := Lib.hid (And.intro HC36.out.1.drew HC36.out.2.drew)
                  refine wp_region_held_drew (S := Cells [⟨true, rq30, qb30, qA30, qs30.length, qc30, zz⟩, ⟨true, rq29, qb29, qA29, qs29.length, qc29, x⟩, ⟨true, rq28, qb28, qA28, qs28.length, qc28, zw⟩, ⟨true, rq27, qb27, qA27, qs27.length, qc27, zu⟩, ⟨true, rq26, qb26, qA26, qs26.length, qc26, zu⟩, ⟨true, rq25, qb25, qA25, qs25.length, qc25, zd⟩, ⟨true, ro, bo, Ao, no, co, zo⟩, ⟨true, rq2, qb2, qA2, qs2.length, qc2, za⟩, ⟨true, rq1, qb1, qA1, qs1.length, qc1, zx⟩, ⟨true, r9, b2, B2, k2, d2, y⟩, ⟨true, r8, b1, B1, k1, d1, x⟩]) (by kernel_rfl) (HD46.out.1.cells) (fun hH0 => ?_)
                  refine wpAnyH_take (i := 0) (v := (.int .i64 (nb : Int))) rfl (by kernel_rfl) (by kernel_rfl) (by kernel_rfl) (fun _ _ _ h => h) (Or.inl ⟨by kernel_rfl, fun _ _ => by kernel_rfl⟩) hH0 ?r109
                  change wpAnyH _ _ _ _ _ _ _ (Act.put _ (some 180) _) _
                  simp only [Act.put, List.setIfInBounds_toArray, List.set_cons_zero, List.set_cons_succ]
                  refine wpAnyH_take (i := 1) (v := (.int .i64 (position : Int))) rfl (by kernel_rfl) (by kernel_rfl) (by kernel_rfl) (fun _ _ _ h => h) (Or.inl ⟨by kernel_rfl, fun _ _ => by kernel_rfl⟩) hH0 ?r110
                  change wpAnyH _ _ _ _ _ _ _ (Act.put _ (some 181) _) _
                  simp only [Act.put, List.setIfInBounds_toArray, List.set_cons_zero, List.set_cons_succ]
                  refine wpAnyH_take (i := 2) (v := (.bool false)) rfl (by kernel_rfl) (by kernel_rfl) (by kernel_rfl) (fun _ _ _ h => h) (Or.inl ⟨by kernel_rfl, fun w0 hS0 => by go_simp⟩) hH0 ?r111
                  change wpAnyH _ _ _ _ _ _ _ (Act.put _ (some 182) _) _
                  simp only [Act.put, List.setIfInBounds_toArray, List.set_cons_zero, List.set_cons_succ]
                  refine wpAnyH_take (i := 3) (v := (.bool false)) rfl (by kernel_rfl) (by kernel_rfl) (by kernel_rfl) (fun _ _ _ h => h) (Or.inl ⟨by kernel_rfl, fun _ _ => by kernel_rfl⟩) hH0 ?r112
                  change wpAnyH _ _ _ _ _ _ _ (Act.put _ (some 183) _) _
                  simp only [Act.put, List.setIfInBounds_toArray, List.set_cons_zero, List.set_cons_succ]
                  refine wpAnyH_take (i := 4) (v := (.int .i64 (nb : Int))) rfl (by kernel_rfl) (by kernel_rfl) (by kernel_rfl) (fun _ _ _ h => h) (Or.inl ⟨by kernel_rfl, fun _ _ => by kernel_rfl⟩) hH0 ?r113
                  change wpAnyH _ _ _ _ _ _ _ (Act.put _ (some 184) _) _
                  simp only [Act.put, List.setIfInBounds_toArray, List.set_cons_zero, List.set_cons_succ]
                  refine wpAnyH_take (i := 5) (v := (.int .i64 (position : Int))) rfl (by kernel_rfl) (by kernel_rfl) (by kernel_rfl) (fun _ _ _ h => h) (Or.inl ⟨by kernel_rfl, fun _ _ => by kernel_rfl⟩) hH0 ?r114
                  change wpAnyH _ _ _ _ _ _ _ (Act.put _ (some 185) _) _
                  simp only [Act.put, List.setIfInBounds_toArray, List.set_cons_zero, List.set_cons_succ]
                  refine wpAnyH_take (i := 6) (v := (.int .i64 (size : Int))) rfl (by kernel_rfl) (by kernel_rfl) (by kernel_rfl) (fun _ _ _ h => h) (Or.inl ⟨by kernel_rfl, fun _ _ => by kernel_rfl⟩) hH0 ?r115
                  change wpAnyH _ _ _ _ _ _ _ (Act.put _ (some 186) _) _
                  simp only [Act.put, List.setIfInBounds_toArray, List.set_cons_zero, List.set_cons_succ]
                  refine wpAnyH_take (i := 7) (v := (.int .i64 ((position : Int) + (size : Int)))) rfl (by kernel_rfl) (by kernel_rfl) (by kernel_rfl) (fun _ _ _ h => h) (Or.inl ⟨by kernel_rfl, fun w0 hS0 => by go_simp⟩) hH0 ?r116
                  change wpAnyH _ _ _ _ _ _ _ (Act.put _ (some 187) _) _
                  simp only [Act.put, List.setIfInBounds_toArray, List.set_cons_zero, List.set_cons_succ]
                  refine wpAnyH_take (i := 8) (v := (.bool false)) rfl (by kernel_rfl) (by kernel_rfl) (by kernel_rfl) (fun _ _ _ h => h) (Or.inl ⟨by kernel_rfl, fun w0 hS0 => by go_simp⟩) hH0 ?r117
                  change wpAnyH _ _ _ _ _ _ _ (Act.put _ (some 188) _) _
                  simp only [Act.put, List.setIfInBounds_toArray, List.set_cons_zero, List.set_cons_succ]
                  refine wpAnyH_take (i := 9) (v := (.bool false)) rfl (by kernel_rfl) (by kernel_rfl) (by kernel_rfl) (fun _ _ _ h => h) (Or.inl ⟨by kernel_rfl, fun _ _ => by kernel_rfl⟩) hH0 ?r118
                  change wpAnyH _ _ _ _ _ _ _ (Act.put _ (some 189) _) _
                  simp only [Act.put, List.setIfInBounds_toArray, List.set_cons_zero, List.set_cons_succ]
                  refine wpAnyH_take (i := 10) (v := (.bool false)) rfl (by kernel_rfl) (by kernel_rfl) (by kernel_rfl) (fun _ _ _ h => h) (Or.inl ⟨by kernel_rfl, fun _ _ => by kernel_rfl⟩) hH0 ?r119
                  change wpAnyH _ _ _ _ _ _ _ (Act.put _ (some 190) _) _
                  simp only [Act.put, List.setIfInBounds_toArray, List.set_cons_zero, List.set_cons_succ]
                  refine wpAnyH_take (i := 11) (v := undef) rfl (by kernel_rfl) (by kernel_rfl) (by kernel_rfl) (fun _ _ _ h => h) (Or.inr ⟨by kernel_rfl, rfl⟩) hH0 ?r120
                  change wpAnyH _ _ _ _ _ _ _ (Act.put _ (some 191) _) _
                  simp only [Act.put, List.setIfInBounds_toArray, List.set_cons_zero, List.set_cons_succ]
                  refine wpAnyH_take (i := 12) (v := undef) rfl (by kernel_rfl) (by kernel_rfl) (by kernel_rfl) (fun _ _ _ h => h) (Or.inr ⟨by kernel_rfl, rfl⟩) hH0 ?r121
                  change wpAnyH _ _ _ _ _ _ _ (Act.put _ (some 192) _) _
                  simp only [Act.put, List.setIfInBounds_toArray, List.set_cons_zero, List.set_cons_succ]
                  refine wpAnyH_take (i := 13) (v := undef) rfl (by kernel_rfl) (by kernel_rfl) (by kernel_rfl) (fun _ _ _ h => h) (Or.inr ⟨by kernel_rfl, rfl⟩) hH0 ?r122
                  change wpAnyH _ _ _ _ _ _ _ (Act.put _ (some 193) _) _
                  simp only [Act.put, List.setIfInBounds_toArray, List.set_cons_zero, List.set_cons_succ]
                  refine wpAnyH_take (i := 14) (v := undef) rfl (by kernel_rfl) (by kernel_rfl) (by kernel_rfl) (fun _ _ _ h => h) (Or.inr ⟨by kernel_rfl, rfl⟩) hH0 ?r123
                  change wpAnyH _ _ _ _ _ _ _ (Act.put _ (some 194) _) _
                  simp only [Act.put, List.setIfInBounds_toArray, List.set_cons_zero, List.set_cons_succ]
                  refine wpAnyH_take (i := 15) (v := undef) rfl (by kernel_rfl) (by kernel_rfl) (by kernel_rfl) (fun _ _ _ h => h) (Or.inr ⟨by kernel_rfl, rfl⟩) hH0 ?r124
                  change wpAnyH _ _ _ _ _ _ _ (Act.put _ (some 195) _) _
                  simp only [Act.put, List.setIfInBounds_toArray, List.set_cons_zero, List.set_cons_succ]
                  refine wpAnyH_take (i := 16) (v := undef) rfl (by kernel_rfl) (by kernel_rfl) (by kernel_rfl) (fun _ _ _ h => h) (Or.inr ⟨by kernel_rfl, rfl⟩) hH0 ?r125
                  change wpAnyH _ _ _ _ _ _ _ (Act.put _ (some 196) _) _
                  simp only [Act.put, List.setIfInBounds_toArray, List.set_cons_zero, List.set_cons_succ]
                  refine wpAnyH_take (i := 17) (v := undef) rfl (by kernel_rfl) (by kernel_rfl) (by kernel_rfl) (fun _ _ _ h => h) (Or.inr ⟨by kernel_rfl, rfl⟩) hH0 ?r126
                  change wpAnyH _ _ _ _ _ _ _ (Act.put _ (some 197) _) _
                  simp only [Act.put, List.setIfInBounds_toArray, List.set_cons_zero, List.set_cons_succ]
                  refine wpAnyH_take (i := 18) (v := (Value.bool false)) rfl (by kernel_rfl) (by kernel_rfl) (by kernel_rfl) (fun _ _ _ h => h) (Or.inl ⟨by kernel_rfl, fun _ _ => by kernel_rfl⟩) hH0 ?r127
                  change wpAnyH _ _ _ _ _ _ _ (Act.put _ (some 198) _) _
                  simp only [Act.put, List.setIfInBounds_toArray, List.set_cons_zero, List.set_cons_succ]
                  refine wpAnyH_take (i := 19) (v := (Value.bool false)) rfl (by kernel_rfl) (by kernel_rfl) (by kernel_rfl) (fun _ _ _ h => h) (Or.inl ⟨by kernel_rfl, fun _ _ => by kernel_rfl⟩) hH0 ?r128
                  change wpAnyH _ _ _ _ _ _ _ (Act.put _ (some 199) _) _
                  simp only [Act.put, List.setIfInBounds_toArray, List.set_cons_zero, List.set_cons_succ]
                  refine wpAnyH_take (i := 20) (v := (.agg #[.bool qb30, .slice qA30 qs30.length qc30])) rfl (by kernel_rfl) (by kernel_rfl) (by kernel_rfl) (fun _ _ _ h => h) (Or.inl ⟨by kernel_rfl, fun w0 hS0 => run_load (hS0 0 _ rfl rfl) (.tmp 31) (by kernel_rfl) (by kernel_rfl)⟩) hH0 ?r129
                  change wpAnyH _ _ _ _ _ _ _ (Act.put _ (some 200) _) _
                  simp only [Act.put, List.setIfInBounds_toArray, List.set_cons_zero, List.set_cons_succ]
                  refine wpAnyH_take (i := 21) (v := (.int .i64 (nb : Int))) rfl (by kernel_rfl) (by kernel_rfl) (by kernel_rfl) (fun _ _ _ h => h) (Or.inl ⟨by kernel_rfl, fun _ _ => by kernel_rfl⟩) hH0 ?r130
                  change wpAnyH _ _ _ _ _ _ _ (Act.put _ (some 201) _) _
                  simp only [Act.put, List.setIfInBounds_toArray, List.set_cons_zero, List.set_cons_succ]
                  refine wpAnyH_take (i := 23) (v := (.int .u8 (op : Int))) rfl (by kernel_rfl) (by kernel_rfl) (by kernel_rfl) (fun _ _ _ h => h) (Or.inl ⟨by kernel_rfl, fun _ _ => by kernel_rfl⟩) hH0 ?r131
                  change wpAnyH _ _ _ _ _ _ _ (Act.put _ (some 203) _) _
                  simp only [Act.put, List.setIfInBounds_toArray, List.set_cons_zero, List.set_cons_succ]
                  refine wpAnyH_take (i := 24) (v := (.int .u8 (o16 : Int))) rfl (by kernel_rfl) (by kernel_rfl) (by kernel_rfl) (fun _ _ _ h => h) (Or.inl ⟨by kernel_rfl, fun w0 hS0 => by go_simp⟩) hH0 ?r132
                  change wpAnyH _ _ _ _ _ _ _ (Act.put _ (some 204) _) _
                  simp only [Act.put, List.setIfInBounds_toArray, List.set_cons_zero, List.set_cons_succ]
                  refine wpAnyH_take (i := 25) (v := (.int .i64 (o16 : Int))) rfl (by kernel_rfl) (by kernel_rfl) (by kernel_rfl) (fun _ _ _ h => h) (Or.inl ⟨by kernel_rfl, fun w0 hS0 => by go_simp⟩) hH0 ?r133
                  change wpAnyH _ _ _ _ _ _ _ (Act.put _ (some 205) _) _
                  simp only [Act.put, List.setIfInBounds_toArray, List.set_cons_zero, List.set_cons_succ]
                  refine wpAnyH_take (i := 26) (v := (.int .i64 (pz : Int))) rfl (by kernel_rfl) (by kernel_rfl) (by kernel_rfl) (fun _ _ _ h => h) (Or.inl ⟨by kernel_rfl, fun _ _ => by kernel_rfl⟩) hH0 ?r134
                  change wpAnyH _ _ _ _ _ _ _ (Act.put _ (some 206) _) _
                  simp only [Act.put, List.setIfInBounds_toArray, List.set_cons_zero, List.set_cons_succ]
                  refine wpAnyH_take (i := 27) (v := (.int .i64 ((o16 : Int) / 2 ^ pz))) rfl (by kernel_rfl) (by kernel_rfl) (by kernel_rfl) (fun _ _ _ h => h) (Or.inl ⟨by kernel_rfl, fun w0 hS0 => by go_simp⟩) hH0 ?r135
                  change wpAnyH _ _ _ _ _ _ _ (Act.put _ (some 207) _) _
                  simp only [Act.put, List.setIfInBounds_toArray, List.set_cons_zero, List.set_cons_succ]
                  refine wpAnyH_take (i := 28) (v := (.int .i64 (bits .and .i64 ((o16 : Int) / 2 ^ pz) 1))) rfl (by kernel_rfl) (by kernel_rfl) (by kernel_rfl) (fun _ _ _ h => h) (Or.inl ⟨by kernel_rfl, fun w0 hS0 => by go_simp⟩) hH0 ?r136
                  change wpAnyH _ _ _ _ _ _ _ (Act.put _ (some 208) _) _
                  simp only [Act.put, List.setIfInBounds_toArray, List.set_cons_zero, List.set_cons_succ]
                  refine wpAnyH_take (i := 29) (v := (.bool bz)) rfl (by kernel_rfl) (by kernel_rfl) (by kernel_rfl) (fun _ _ _ h => h) (Or.inl ⟨by kernel_rfl, fun w0 hS0 => by go_simp⟩) hH0 ?r137
                  change wpAnyH _ _ _ _ _ _ _ (Act.put _ (some 209) _) _
                  simp only [Act.put, List.setIfInBounds_toArray, List.set_cons_zero, List.set_cons_succ]
                  refine wpAnyH_ready (rs := [22]) (by kernel_rfl) (by simp) ?_
                  refine AllReadyH.cons rfl (fun K hK0 => ?d138) (AllReadyH.nil)
                  have hK := hK0.out
                  clear hK0
                  rw [if_pos (by kernel_rfl)]
                  refine wp_go_call 53 #[(.agg #[.bool qb30, .slice qA30 qs30.length qc30]), (.int .i64 (nb : Int))] (fun _ => by kernel_rfl) ((ibit_is _ zz nb bz 7 _ ((HD46.out.1 0 _ rfl).at_) HY.out.fz (by decide) hnb3 HBz.out.1).mono ?_)
                  rintro e wq47 ⟨rfl, hb47⟩
                  have HD47 := Lib.hid (And.intro (HD46.out.1.step hb47 rfl) (below_then HD46.out.2 hb47))
                  refine ⟨(.bool bz), rfl, hK _ _ (HD47.out.1.cells) (fun hH47 => ?_)⟩
                  clear hK K hH0
                  change wpAnyH _ _ _ _ _ _ _ (Act.put _ (some 202) _) _
                  simp only [Act.put, List.setIfInBounds_toArray, List.set_cons_zero, List.set_cons_succ]
                  refine wpAnyH_take (i := 30) (v := (.bool false)) rfl (by kernel_rfl) (by kernel_rfl) (by kernel_rfl) (fun _ _ _ h => h) (Or.inl ⟨by kernel_rfl, fun w0 hS0 => by go_simp⟩) hH47 ?r139
                  change wpAnyH _ _ _ _ _ _ _ (Act.put _ (some 210) _) _
                  simp only [Act.put, List.setIfInBounds_toArray, List.set_cons_zero, List.set_cons_succ]
                  refine wpAnyH_take (i := 31) (v := (.bool false)) rfl (by kernel_rfl) (by kernel_rfl) (by kernel_rfl) (fun _ _ _ h => h) (Or.inl ⟨by kernel_rfl, fun _ _ => by kernel_rfl⟩) hH47 ?r140
                  change wpAnyH _ _ _ _ _ _ _ (Act.put _ (some 211) _) _
                  simp only [Act.put, List.setIfInBounds_toArray, List.set_cons_zero, List.set_cons_succ]
                  refine wpAnyH_done (by kernel_rfl) ?_ _
                  go_wp2
                  go_meet
                  exact ⟨rfl, _, rfl, HD47.out.1, HD47.out.2⟩
            case rest =>
              obtain ⟨rfl, Wq37, rfl, hvs, hbl⟩ := hcut
              have HC37 := Lib.hid (And.intro hvs hbl)
              clear hvs hbl HC36
              go_upto_region 27 with fail
              clear p0 p1 p2 hpz3 hq1 hnb1 hnb2 ho16 HBz HQ2 HQ
              obtain ⟨zs, HS⟩ := patZ3 x size HF.out.1 hk
              obtain ⟨px0, px1⟩ : Two Wq37 r8 (.bool b1) (.slice B1 k1 d1) := (HC37.out.1 10 _ rfl).two rfl
              go_wp2_with fail
              refine (shift_is _ x (size : Int) zs 6 _ ((HC37.out.1 10 _ rfl).at_) HF.out.1 (by decide) (by omega) HS.out.e1 HS.out.a1).mono ?_
              rintro e wq48 ⟨qv48, rfl, ⟨qb48, qA48, qc48, qs48, rfl, qg48, ql48⟩, hb48⟩
              have hv48 := ((HC37.out.1.step hb48 rfl).told qg48 ql48).laid 28
              have hl48 : Below w.heap.size w (wq48.alloc (.cells #[.bool qb48, .slice qA48 qs48.length qc48] 28)) := (below_then HC37.out.2 hb48).alloc (Nat.le_trans HC37.out.2.size hb48.size) _
              obtain ⟨Wq48, hW48⟩ : ∃ W : World, W = wq48.alloc (.cells #[.bool qb48, .slice qA48 qs48.length qc48] 28) := ⟨_, rfl⟩
              obtain ⟨rq48, hr48⟩ : ∃ r : Nat, r = wq48.heap.size := ⟨_, rfl⟩
              rw [← hW48] at hv48 hl48
              rw [← hr48] at hv48
              have HC48 := Lib.hid (And.intro hv48 hl48)
              have HW48 := Lib.hid hW48
              have HR48 := Lib.hid hr48
              clear px0 px1
              clear hv48 hl48 hW48 hr48 qg48 ql48 hb48 HC37
              go_upto_region 28 with fail
              rw [← HW48.out, ← HR48.out]
              clear HW48 HR48
              obtain ⟨pup0, pup1⟩ : Two Wq48 rq48 (.bool qb48) (.slice qA48 qs48.length qc48) := (HC48.out.1 0 _ rfl).two rfl
              go_wp2_with fail
              refine (shift_is _ zs (-(size : Int)) x 14 _ ((HC48.out.1 0 _ rfl).at_) HS.out.fs (by decide) (by omega) HS.out.e2 HS.out.a2).mono ?_
              rintro e wq49 ⟨qv49, rfl, ⟨qb49, qA49, qc49, qs49, rfl, qg49, ql49⟩, hb49⟩
              have hv49 := ((HC48.out.1.step hb49 rfl).told qg49 ql49).laid 28
              have hl49 : Below w.heap.size w (wq49.alloc (.cells #[.bool qb49, .slice qA49 qs49.length qc49] 28)) := (below_then HC48.out.2 hb49).alloc (Nat.le_trans HC48.out.2.size hb49.size) _
              obtain ⟨Wq49, hW49⟩ : ∃ W : World, W = wq49.alloc (.cells #[.bool qb49, .slice qA49 qs49.length qc49] 28) := ⟨_, rfl⟩
              obtain ⟨rq49, hr49⟩ : ∃ r : Nat, r = wq49.heap.size := ⟨_, rfl⟩
              rw [← hW49] at hv49 hl49
              rw [← hr49] at hv49
              have HC49 := Lib.hid (And.intro hv49 hl49)
              have HW49 := Lib.hid hW49
              have HR49 := Lib.hid hr49
              clear pup0 pup1
              clear hv49 hl49 hW49 hr49 qg49 ql49 hb49 HC48
              go_upto_region 29 with fail
              rw [← HW49.out, ← HR49.out]
              clear HW49 HR49
              obtain ⟨pdown0, pdown1⟩ : Two Wq49 rq49 (.bool qb49) (.slice qA49 qs49.length qc49) := (HC49.out.1 0 _ rfl).two rfl
              obtain ⟨px0, px1⟩ : Two Wq49 r8 (.bool b1) (.slice B1 k1 d1) := (HC49.out.1 12 _ rfl).two rfl
              go_wp2_with fail
              refine (same_true _ _ x x 6 _ ((HC49.out.1 0 _ rfl).at_) ((HC49.out.1 12 _ rfl).at_) (by decide) HF.out.1 HF.out.1 rfl).mono ?_
              rintro e wq50 ⟨rfl, hb50⟩
              have HC50 := Lib.hid (And.intro (HC49.out.1.step hb50 rfl) (below_then HC49.out.2 hb50))
              clear pdown0 pdown1 px0 px1
              clear hb50 HC49
              go_wp2_with fail
              refine (awake_any _).mono ?_
              rintro e wq51 ⟨rfl, hb51⟩
              have HC51 := Lib.hid (And.intro (HC50.out.1.step hb51 rfl) (below_then HC50.out.2 hb51))
              clear hb51 HC50
              go_wp2
              go_ret
              exact ⟨rfl, HC51.out.2⟩
end Go.Proofs.Ytagmdeabneapaaa
