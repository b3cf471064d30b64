/- The second half of the walk of the law IntegerRing. -/
import Derived.Test.YtodakmjalocfaaaRingBase
import Derived.Deep.DeepCutAuto
import Derived.BigRegion
import Derived.Test.YtodakmjalocfaaaStep
import Derived.IntWalk
import Derived.Outline
namespace Go.Proofs.Ytodakmjalocfaaa
open Go.RowKit
set_option linter.unusedSimpArgs false

/-- The three variables of the law hold three integers of at most 8 limbs. -/
def Xyz (w : World) (s8 s9 s10 : Value) (wx : World) : Prop :=
  ∃ (r8 r9 r10 : Nat) (X1 X2 Y1 Y2 Z1 Z2 : Value) (x y z : Int), s8 = .pointer (some ⟨r8, 0, none⟩) ∧ s9 = .pointer (some ⟨r9, 0, none⟩) ∧ s10 = .pointer (some ⟨r10, 0, none⟩) ∧
    XYZ wx r8 r9 r10 X1 X2 Y1 Y2 Z1 Z2 x y z ∧ Below w.heap.size w wx ∧ Fits x 8 ∧ Fits y 8 ∧ Fits z 8

theorem fits_of {xs : List Nat} {s : Bool} (ho : Lm.Ok B32 xs) (hl : xs.length ≤ 8) : Fits (ofSign s (Lm.val B32 xs)) 8 := by
  have h := Nat.lt_of_lt_of_le (Lm.val_lt ho) (Nat.pow_le_pow_right B32_pos hl)
  unfold Fits ofSign
  cases s <;> simp <;> exact h

/-- Three new boxes. -/
structure Boxes (w W : World) (a1 a2 b1 b2 c1 c2 : Value) : Prop where
  a : Two W w.heap.size a1 a2
  b : Two W (w.heap.size + 1) b1 b2
  c : Two W (w.heap.size + 1 + 1) c1 c2
  below : Below w.heap.size w W
  size : w.heap.size + 1 + 1 < W.heap.size

theorem boxes3 (w : World) (a1 a2 b1 b2 c1 c2 : Value) (t : TypeId) :
    Boxes w (((w.alloc (.cells #[a1, a2] t)).alloc (.cells #[b1, b2] t)).alloc (.cells #[c1, c2] t)).drew a1 a2 b1 b2 c1 c2 := by
  have ha := ((Two.new w a1 a2 t).alloc (by simp) (.cells #[b1, b2] t)).alloc (by simp; omega) (.cells #[c1, c2] t)
  have hb := (Two.new (w.alloc (.cells #[a1, a2] t)) b1 b2 t).alloc (by simp) (.cells #[c1, c2] t)
  have hc := Two.new ((w.alloc (.cells #[a1, a2] t)).alloc (.cells #[b1, b2] t)) c1 c2 t
  rw [size_alloc] at hb
  rw [size_alloc, size_alloc] at hc
  have hl := ((((Below.refl _ _).alloc (Nat.le_refl _) (.cells #[a1, a2] t)).alloc (by simp) (.cells #[b1, b2] t)).alloc (by simp; omega) (.cells #[c1, c2] t) : Below w.heap.size w _)
  exact ⟨ha, hb, hc, hl.drew, by simp⟩

theorem xyz_of (w w2 W : World) (X1 X2 Y1 Y2 Z1 Z2 : Value) (x y z : Int) (r8 r9 r10 : Nat) (hX : IntAt w2 (.agg #[X1, X2]) x) (hY : IntAt w2 (.agg #[Y1, Y2]) y) (hZ : IntAt w2 (.agg #[Z1, Z2]) z) (hb : Below w.heap.size w w2)
    (hf : Fits x 8 ∧ Fits y 8 ∧ Fits z 8) (h8 : Two W r8 X1 X2) (h9 : Two W r9 Y1 Y2) (h10 : Two W r10 Z1 Z2) (hl : Below w2.heap.size w2 W) (l8 : r8 < W.heap.size) (l9 : r9 < W.heap.size) (l10 : r10 < W.heap.size) :
    Xyz w (.pointer (some ⟨r8, 0, none⟩)) (.pointer (some ⟨r9, 0, none⟩)) (.pointer (some ⟨r10, 0, none⟩)) W :=
  ⟨r8, r9, r10, X1, X2, Y1, Y2, Z1, Z2, x, y, z, rfl, rfl, rfl, ⟨l8, l9, l10, h8, h9, h10, hX.step hl rfl, hY.step hl rfl, hZ.step hl rfl⟩, below_then hb hl, hf⟩

theorem cmp_is (v1 v2 : Value) (x y p : Int) (m : Nat) (w : World) (h1 : IntAt w v1 x) (h2 : IntAt w v2 y) (hm : m ≤ 900000) (hx : Fits x m) (hy : Fits y m) (hp : cmpZ x y = p) :
    Calls Try.prog 32 #[v1, v2] w fun e w' => IsNum w w' p e := by
  subst hp
  exact Cmp_any v1 v2 x y m w h1 h2 hm hx hy
theorem sign_is (v : Value) (z s : Int) (m : Nat) (w : World) (h : IntAt w v z) (hm : m ≤ 900000) (hz : Fits z m) (hs : z.sign = s) :
    Calls Try.prog 22 #[v] w fun e w' => IsNum w w' s e := by
  subst hs
  exact Sign_any v z m w h hm hz

/-- The orders of three numbers. -/
structure Ords (x y z p q r s : Int) : Prop where
  xy : cmpZ x y = p
  yx : cmpZ y x = -p
  yz : cmpZ y z = q
  xz : cmpZ x z = r
  sz : z.sign = s

theorem nums_of (x y z : Int) : ∃ p q r s, Ords x y z p q r s := by
  refine ⟨_, _, _, _, rfl, ?_, rfl, rfl, rfl⟩
  unfold cmpZ
  (repeat' split) <;> omega
theorem cmp_mul (x y z : Int) (hz : 0 < z) : cmpZ (x * z) (y * z) = cmpZ x y := by
  have h1 : x * z < y * z ↔ x < y := Int.mul_lt_mul_right hz
  have h2 : y * z < x * z ↔ y < x := Int.mul_lt_mul_right hz
  unfold cmpZ
  simp only [h1, h2]
theorem cmp_add (x y z : Int) : cmpZ (x + z) (y + z) = cmpZ x y := by
  have h1 : x + z < y + z ↔ x < y := by omega
  have h2 : y + z < x + z ↔ y < x := by omega
  unfold cmpZ
  simp only [h1, h2]
theorem cmp_bounds (x y : Int) : -1 ≤ cmpZ x y ∧ cmpZ x y ≤ 1 := by
  unfold cmpZ
  (repeat' split) <;> omega
theorem cmp_le (x y : Int) : cmpZ x y ≤ 0 ↔ x ≤ y := by
  unfold cmpZ
  (repeat' split) <;> omega
theorem Ords.cases {x y z p q r s : Int} (o : Ords x y z p q r s) :
    (0 < s ∧ 0 < p) ∨ (0 < s ∧ p ≤ 0 ∧ 0 < q) ∨ (0 < s ∧ p ≤ 0 ∧ q ≤ 0 ∧ r ≤ 0) ∨ (s ≤ 0 ∧ 0 < p) ∨ (s ≤ 0 ∧ p ≤ 0 ∧ 0 < q) ∨ (s ≤ 0 ∧ p ≤ 0 ∧ q ≤ 0 ∧ r ≤ 0) := by
  have h1 := cmp_le x y
  have h2 := cmp_le y z
  have h3 := cmp_le x z
  rw [o.xy] at h1
  rw [o.yz] at h2
  rw [o.xz] at h3
  omega
theorem Ords.pos {x y z p q r s : Int} (o : Ords x y z p q r s) (hs : 0 < s) :
    cmpZ x y = p ∧ cmpZ y x = -p ∧ cmpZ y z = q ∧ cmpZ x z = r ∧ cmpZ (x + z) (y + z) = p ∧ cmpZ (x * z) (y * z) = p ∧ z.sign = s :=
  ⟨o.xy, o.yx, o.yz, o.xz, (cmp_add x y z).trans o.xy, (cmp_mul x y z (Int.sign_pos_iff.mp (o.sz ▸ hs))).trans o.xy, o.sz⟩
theorem Ords.neg {x y z p q r s : Int} (o : Ords x y z p q r s) :
    cmpZ x y = p ∧ cmpZ y x = -p ∧ cmpZ y z = q ∧ cmpZ x z = r ∧ cmpZ (x + z) (y + z) = p ∧ True ∧ z.sign = s :=
  ⟨o.xy, o.yx, o.yz, o.xz, (cmp_add x y z).trans o.xy, trivial, o.sz⟩
theorem Ords.wrap1 {x y z p q r s : Int} (o : Ords x y z p q r s) : IntKind.i64.wrap p = p := by
  have h := cmp_bounds x y
  rw [o.xy] at h
  exact IntWalk.i64_in _ (by omega)
theorem Ords.wrap3 {x y z p q r s : Int} (o : Ords x y z p q r s) : IntKind.i64.wrap (0 - -p) = p := by
  rw [show (0 : Int) - -p = p by omega]
  exact o.wrap1
theorem Ords.wrap2 {x y z p q r s : Int} (o : Ords x y z p q r s) : IntKind.i64.wrap (- -p) = p := by
  rw [Int.neg_neg]
  exact o.wrap1

set_option maxRecDepth 100000 in
set_option maxHeartbeats 20000000 in
theorem ring_short (s1 : Bool) (A1 : Option Addr) (c1 : Nat) (xs1 : List Nat) (s2 : Bool) (A2 : Option Addr) (c2 : Nat) (xs2 : List Nat) (s3 : Bool) (A3 : Option Addr) (c3 : Nat) (xs3 : List Nat) (w : World)
    (h1 : Plain w A1 c1 xs1) (h2 : Plain w A2 c2 xs2) (h3 : Plain w A3 c3 xs3) :
    Calls Try.prog 10 #[.agg #[.bool s1, .slice A1 xs1.length c1], .agg #[.bool s2, .slice A2 xs2.length c2], .agg #[.bool s3, .slice A3 xs3.length c3]] w fun e w' => IsBool w w' true e := by
  have hs := ringAt_size w s1 (.slice A1 xs1.length c1) s2 (.slice A2 xs2.length c2) s3 (.slice A3 xs3.length c3)
  have hb0 := ringAt_below w s1 (.slice A1 xs1.length c1) s2 (.slice A2 xs2.length c2) s3 (.slice A3 xs3.length c3)
  have ht := Three.new (ringAt w s1 (.slice A1 xs1.length c1) s2 (.slice A2 xs2.length c2) s3 (.slice A3 xs3.length c3)) s1 A1 xs1.length c1 s2 A2 xs2.length c2 s3 A3 xs3.length c3 24
  have hsh := short_any _ s1 A1 xs1.length c1 s2 A2 xs2.length c2 s3 A3 xs3.length c3 _ ht
  rw [decide_eq_true (show AllShort xs1.length xs2.length xs3.length from ⟨h1.2.2.1, h2.2.2.1, h3.2.2.1⟩), hs] at hsh
  have hb1 := hb0.alloc hb0.size (.cells #[.bool s1, .slice A1 xs1.length c1, .bool s2, .slice A2 xs2.length c2, .bool s3, .slice A3 xs3.length c3] 24)
  have hx := ((((Two.new w (.bool s1) (.slice A1 xs1.length c1) 24).alloc (by simp) (.cells #[.bool s2, .slice A2 xs2.length c2] 24)).alloc (by simp; omega) (.cells #[.bool s3, .slice A3 xs3.length c3] 24)).alloc (by simp; omega) (.cells #[.bool s1, .slice A1 xs1.length c1, .bool s2, .slice A2 xs2.length c2, .bool s3, .slice A3 xs3.length c3] 24))
  have hy := ((Two.new (w.alloc (.cells #[.bool s1, .slice A1 xs1.length c1] 24)) (.bool s2) (.slice A2 xs2.length c2) 24).alloc (by simp) (.cells #[.bool s3, .slice A3 xs3.length c3] 24)).alloc (by simp) (.cells #[.bool s1, .slice A1 xs1.length c1, .bool s2, .slice A2 xs2.length c2, .bool s3, .slice A3 xs3.length c3] 24)
  have hz := (Two.new ((w.alloc (.cells #[.bool s1, .slice A1 xs1.length c1] 24)).alloc (.cells #[.bool s2, .slice A2 xs2.length c2] 24)) (.bool s3) (.slice A3 xs3.length c3) 24).alloc (by simp) (.cells #[.bool s1, .slice A1 xs1.length c1, .bool s2, .slice A2 xs2.length c2, .bool s3, .slice A3 xs3.length c3] 24)
  rw [size_alloc] at hy
  rw [size_alloc, size_alloc] at hz
  have hsz : w.heap.size + 4 = ((ringAt w s1 (.slice A1 xs1.length c1) s2 (.slice A2 xs2.length c2) s3 (.slice A3 xs3.length c3)).alloc (.cells #[.bool s1, .slice A1 xs1.length c1, .bool s2, .slice A2 xs2.length c2, .bool s3, .slice A3 xs3.length c3] 24)).heap.size := by rw [size_alloc, hs]
  have H := Lib.hid (And.intro hsh (And.intro hb1 (And.intro h1 (And.intro h2 (And.intro h3 (And.intro hx (And.intro hy (And.intro hz hsz))))))))
  have HP := Lib.hid (And.intro h1 (And.intro h2 h3))
  clear hb0 ht hsh hb1 h1 h2 h3 hx hy hz hsz hs
  go_enter Try.func10, Try.ntmps10
  go_wp2_with fail
  refine H.out.1.mono ?_
  rintro e w1 ⟨rfl, hb1⟩
  have hb01 := below_then H.out.2.1 hb1
  have hsz1 := H.out.2.2.2.2.2.2.2.2
  obtain ⟨x0, x1⟩ := H.out.2.2.2.2.2.1.step hb1 rfl (Nat.lt_of_lt_of_eq (m := w.heap.size + 4) (by omega) hsz1)
  obtain ⟨y0, y1⟩ := H.out.2.2.2.2.2.2.1.step hb1 rfl (Nat.lt_of_lt_of_eq (m := w.heap.size + 4) (by omega) hsz1)
  obtain ⟨z0, z1⟩ := H.out.2.2.2.2.2.2.2.1.step hb1 rfl (Nat.lt_of_lt_of_eq (m := w.heap.size + 4) (by omega) hsz1)
  have hba : Below w1.heap.size w1 (w1.alloc (.cells #[.bool s1, .slice A1 xs1.length c1, .bool s2, .slice A2 xs2.length c2, .bool s3, .slice A3 xs3.length c3] 24)) := (Below.refl _ _).alloc (Nat.le_refl _) _
  have hb0a := below_then hb01 hba
  have hm := lmade_any w1.heap.size s1 A1 c1 xs1 s2 A2 c2 xs2 s3 A3 c3 xs3 _ (Three.new w1 s1 A1 xs1.length c1 s2 A2 xs2.length c2 s3 A3 xs3.length c3 24) (H.out.2.2.1.step hb0a rfl) (H.out.2.2.2.1.step hb0a rfl) (H.out.2.2.2.2.1.step hb0a rfl)
  have HM := Lib.hid (And.intro hm hb0a)
  clear hm hb0a hsz1
  go_wp2_with fail
  refine HM.out.1.mono ?_
  rintro e w2 ⟨⟨g, cc, u1, v1, u2, v2, u3, v3, rfl, hcc, hlt, f0, f1, f2, f3, f4, f5, ⟨b1, B1, k1, d1, rfl, rfl, _, hi1⟩, ⟨b2, B2, k2, d2, rfl, rfl, _, hi2⟩, ⟨b3, B3, k3, d3, rfl, rfl, _, hi3⟩⟩, hb2⟩
  have hb02 := below_then HM.out.2 hb2
  have HI := Lib.hid (And.intro hi1 (And.intro hi2 (And.intro hi3 (And.intro hb02 (And.intro (fits_of (s := s1) HP.out.1.2.1 HP.out.1.2.2.1) (And.intro (fits_of (s := s2) HP.out.2.1.2.1 HP.out.2.1.2.2.1) (fits_of (s := s3) HP.out.2.2.2.1 HP.out.2.2.2.2.1)))))))
  clear hi1 hi2 hi3 hb02 x0 x1 y0 y1 z0 z1 hb1 hb01 hba
  have t0 : Three w2 g b1 B1 k1 d1 b2 B2 k2 d2 b3 B3 k3 d3 := ⟨hlt, f0, f1, f2, f3, f4, f5⟩
  have t1 := fun o1 : Obj => t0.step ((Below.refl w2.heap.size w2).alloc (Nat.le_refl _) o1) rfl
  have t2 := fun o1 o2 : Obj => (t1 o1).step ((Below.refl _ (w2.alloc o1)).alloc (Nat.le_refl _) o2) rfl
  have t3 := fun o1 o2 o3 : Obj => (t2 o1 o2).step ((Below.refl _ ((w2.alloc o1).alloc o2)).alloc (Nat.le_refl _) o3) rfl
  have a10 := fun o1 : Obj => (t1 o1).a0
  have a11 := fun o1 : Obj => (t1 o1).a1
  have a12 := fun o1 : Obj => (t1 o1).a2
  have a13 := fun o1 : Obj => (t1 o1).a3
  have a14 := fun o1 : Obj => (t1 o1).a4
  have a15 := fun o1 : Obj => (t1 o1).a5
  have a20 := fun o1 o2 : Obj => (t2 o1 o2).a0
  have a21 := fun o1 o2 : Obj => (t2 o1 o2).a1
  have a22 := fun o1 o2 : Obj => (t2 o1 o2).a2
  have a23 := fun o1 o2 : Obj => (t2 o1 o2).a3
  have a24 := fun o1 o2 : Obj => (t2 o1 o2).a4
  have a25 := fun o1 o2 : Obj => (t2 o1 o2).a5
  have a30 := fun o1 o2 o3 : Obj => (t3 o1 o2 o3).a0
  have a31 := fun o1 o2 o3 : Obj => (t3 o1 o2 o3).a1
  have a32 := fun o1 o2 o3 : Obj => (t3 o1 o2 o3).a2
  have a33 := fun o1 o2 o3 : Obj => (t3 o1 o2 o3).a3
  have a34 := fun o1 o2 o3 : Obj => (t3 o1 o2 o3).a4
  have a35 := fun o1 o2 o3 : Obj => (t3 o1 o2 o3).a5
  clear t1 t2 t3
  clear t0
  go_wp2_with fail
  go_upto_region 4 with fail
  go_cut [8, 9, 10] (fun s8 s9 s10 wx => Xyz w s8 s9 s10 wx)
  case first => as_aux_lemma =>
    go_region
    all_goals go_wp2_with fail
    all_goals go_meet
    all_goals (first
      | (have B := boxes3 w2 (.bool b1) (.slice B1 k1 d1) (.bool b2) (.slice B2 k2 d2) (.bool b3) (.slice B3 k3 d3) 28; exact xyz_of w w2 _ _ _ _ _ _ _ _ _ _ _ _ _ HI.out.1 HI.out.2.1 HI.out.2.2.1 HI.out.2.2.2.1 HI.out.2.2.2.2 B.a B.b B.c B.below (Nat.lt_of_le_of_lt (by omega) B.size) (Nat.lt_of_le_of_lt (by omega) B.size) B.size)
      | (have B := boxes3 w2 (.bool b1) (.slice B1 k1 d1) (.bool b3) (.slice B3 k3 d3) (.bool b2) (.slice B2 k2 d2) 28; exact xyz_of w w2 _ _ _ _ _ _ _ _ _ _ _ _ _ HI.out.1 HI.out.2.1 HI.out.2.2.1 HI.out.2.2.2.1 HI.out.2.2.2.2 B.a B.c B.b B.below (Nat.lt_of_le_of_lt (by omega) B.size) B.size (Nat.lt_of_le_of_lt (by omega) B.size))
      | (have B := boxes3 w2 (.bool b2) (.slice B2 k2 d2) (.bool b1) (.slice B1 k1 d1) (.bool b3) (.slice B3 k3 d3) 28; exact xyz_of w w2 _ _ _ _ _ _ _ _ _ _ _ _ _ HI.out.1 HI.out.2.1 HI.out.2.2.1 HI.out.2.2.2.1 HI.out.2.2.2.2 B.b B.a B.c B.below (Nat.lt_of_le_of_lt (by omega) B.size) (Nat.lt_of_le_of_lt (by omega) B.size) B.size)
      | (have B := boxes3 w2 (.bool b2) (.slice B2 k2 d2) (.bool b3) (.slice B3 k3 d3) (.bool b1) (.slice B1 k1 d1) 28; exact xyz_of w w2 _ _ _ _ _ _ _ _ _ _ _ _ _ HI.out.1 HI.out.2.1 HI.out.2.2.1 HI.out.2.2.2.1 HI.out.2.2.2.2 B.c B.a B.b B.below B.size (Nat.lt_of_le_of_lt (by omega) B.size) (Nat.lt_of_le_of_lt (by omega) B.size))
      | (have B := boxes3 w2 (.bool b3) (.slice B3 k3 d3) (.bool b1) (.slice B1 k1 d1) (.bool b2) (.slice B2 k2 d2) 28; exact xyz_of w w2 _ _ _ _ _ _ _ _ _ _ _ _ _ HI.out.1 HI.out.2.1 HI.out.2.2.1 HI.out.2.2.2.1 HI.out.2.2.2.2 B.b B.c B.a B.below (Nat.lt_of_le_of_lt (by omega) B.size) B.size (Nat.lt_of_le_of_lt (by omega) B.size))
      | (have B := boxes3 w2 (.bool b3) (.slice B3 k3 d3) (.bool b2) (.slice B2 k2 d2) (.bool b1) (.slice B1 k1 d1) 28; exact xyz_of w w2 _ _ _ _ _ _ _ _ _ _ _ _ _ HI.out.1 HI.out.2.1 HI.out.2.2.1 HI.out.2.2.2.1 HI.out.2.2.2.2 B.c B.b B.a B.below B.size (Nat.lt_of_le_of_lt (by omega) B.size) (Nat.lt_of_le_of_lt (by omega) B.size)))
  case rest =>
    obtain ⟨r8, r9, r10, X1, X2, Y1, Y2, Z1, Z2, x, y, z, rfl, rfl, rfl, Bs, bls, HF0⟩ := hcut
    have HF := Lib.hid HF0
    clear HF0 HI HP HM H
    go_upto_region 5 with fail
    go_cut [77] (fun s wx => s = .bool false ∧ XYZ wx r8 r9 r10 X1 X2 Y1 Y2 Z1 Z2 x y z ∧ Below w.heap.size w wx)
    case first => as_aux_lemma =>
      refine wp_region_held_drew (S := (fun w' => w'.cell? ⟨r8, 0, none⟩ = some X1 ∧ w'.cell? ⟨r8, 1, none⟩ = some X2 ∧ w'.cell? ⟨r9, 0, none⟩ = some Y1 ∧ w'.cell? ⟨r9, 1, none⟩ = some Y2 ∧ w'.cell? ⟨r10, 0, none⟩ = some Z1 ∧ w'.cell? ⟨r10, 1, none⟩ = some Z2)) (by kernel_rfl) (Bs.cells) (fun hH0 => ?_)
      refine wpAnyH_take (i := 0) (v := (.agg #[X1, X2])) rfl (by kernel_rfl) (by kernel_rfl) (by kernel_rfl) (fun _ _ _ h => h) (Or.inl ⟨by kernel_rfl, ?y1⟩) hH0 ?r1
      case y1 => (intro w0 hS0; (try dsimp only at hS0); go_simp)
      change wpAnyH _ _ _ _ _ _ _ (Act.put _ (some 32) _) _
      simp only [Act.put, List.setIfInBounds_toArray, List.set_cons_zero, List.set_cons_succ]
      refine wpAnyH_take (i := 1) (v := (.agg #[Y1, Y2])) rfl (by kernel_rfl) (by kernel_rfl) (by kernel_rfl) (fun _ _ _ h => h) (Or.inl ⟨by kernel_rfl, ?y2⟩) hH0 ?r2
      case y2 => (intro w0 hS0; (try dsimp only at hS0); go_simp)
      change wpAnyH _ _ _ _ _ _ _ (Act.put _ (some 33) _) _
      simp only [Act.put, List.setIfInBounds_toArray, List.set_cons_zero, List.set_cons_succ]
      refine wpAnyH_take (i := 3) (v := (.agg #[Y1, Y2])) rfl (by kernel_rfl) (by kernel_rfl) (by kernel_rfl) (fun _ _ _ h => h) (Or.inl ⟨by kernel_rfl, ?y3⟩) hH0 ?r3
      case y3 => (intro w0 hS0; (try dsimp only at hS0); go_simp)
      change wpAnyH _ _ _ _ _ _ _ (Act.put _ (some 35) _) _
      simp only [Act.put, List.setIfInBounds_toArray, List.set_cons_zero, List.set_cons_succ]
      refine wpAnyH_take (i := 4) (v := (.agg #[X1, X2])) rfl (by kernel_rfl) (by kernel_rfl) (by kernel_rfl) (fun _ _ _ h => h) (Or.inl ⟨by kernel_rfl, ?y4⟩) hH0 ?r4
      case y4 => (intro w0 hS0; (try dsimp only at hS0); go_simp)
      change wpAnyH _ _ _ _ _ _ _ (Act.put _ (some 36) _) _
      simp only [Act.put, List.setIfInBounds_toArray, List.set_cons_zero, List.set_cons_succ]
      refine wpAnyH_ready (rs := [2]) (by kernel_rfl) (by simp) ?_
      refine AllReadyH.cons rfl (fun K hK0 => ?_) AllReadyH.nil
      have hK := hK0.out
      clear hK0
      rw [if_pos (by kernel_rfl)]
      refine wp_go_call 38 #[(.agg #[X1, X2]), (.agg #[Y1, Y2])] (fun _ => by kernel_rfl) ((Add_any _ _ x y 8 _ (by exact Bs.ix) (by exact Bs.iy) (by decide) (by exact HF.out.1) (by exact HF.out.2.1)).mono ?k5)
      rintro e w1 ⟨v1, rfl, i1_1, hb1⟩
      have B1 := Bs.step hb1 rfl
      have bl1 := begun_then bls hb1 rfl rfl rfl rfl
      clear Bs bls hb1
      refine ⟨v1, rfl, hK _ _ (B1.cells) (fun hH1 => ?_)⟩
      clear hK K hH0
      change wpAnyH _ _ _ _ _ _ _ (Act.put _ (some 34) _) _
      simp only [Act.put, List.setIfInBounds_toArray, List.set_cons_zero, List.set_cons_succ]
      refine wpAnyH_ready (rs := [5]) (by kernel_rfl) (by simp) ?_
      refine AllReadyH.cons rfl (fun K hK0 => ?_) AllReadyH.nil
      have hK := hK0.out
      clear hK0
      rw [if_pos (by kernel_rfl)]
      refine wp_go_call 38 #[(.agg #[Y1, Y2]), (.agg #[X1, X2])] (fun _ => by kernel_rfl) ((Add_any _ _ y x 8 _ (by exact B1.iy) (by exact B1.ix) (by decide) (by exact HF.out.2.1) (by exact HF.out.1)).mono ?k6)
      rintro e w2 ⟨v2, rfl, i2_2, hb2⟩
      have B2 := B1.step hb2 rfl
      have bl2 := begun_then bl1 hb2 rfl rfl rfl rfl
      have i1_2 := i1_1.step hb2 rfl
      clear B1 bl1 hb2 i1_1
      refine ⟨v2, rfl, hK _ _ (B2.cells) (fun hH2 => ?_)⟩
      clear hK K hH1
      change wpAnyH _ _ _ _ _ _ _ (Act.put _ (some 37) _) _
      simp only [Act.put, List.setIfInBounds_toArray, List.set_cons_zero, List.set_cons_succ]
      refine wpAnyH_ready (rs := [6]) (by kernel_rfl) (by simp) ?_
      refine AllReadyH.cons rfl (fun K hK0 => ?_) AllReadyH.nil
      have hK := hK0.out
      clear hK0
      rw [if_pos (by kernel_rfl)]
      refine wp_go_call 65 #[v1, v2] (fun _ => by kernel_rfl) ((same_true _ _ (x + y) (y + x) 9 _ (by exact i1_2) (by exact i2_2) (by decide) (by exact (HF.out.1.add HF.out.2.1)) (by exact (HF.out.2.1.add HF.out.1)) (by exact Int.add_comm x y)).mono ?k7)
      rintro e w3 ⟨rfl, hb3⟩
      have B3 := B2.step hb3 rfl
      have bl3 := begun_then bl2 hb3 rfl rfl rfl rfl
      clear B2 bl2 hb3 i1_2 i2_2
      refine ⟨(.bool true), rfl, hK _ _ (B3.cells) (fun hH3 => ?_)⟩
      clear hK K hH2
      change wpAnyH _ _ _ _ _ _ _ (Act.put _ (some 38) _) _
      simp only [Act.put, List.setIfInBounds_toArray, List.set_cons_zero, List.set_cons_succ]
      refine wpAnyH_take (i := 7) (v := (.bool false)) rfl (by kernel_rfl) (by kernel_rfl) (by kernel_rfl) (fun _ _ _ h => h) (Or.inl ⟨by kernel_rfl, fun _ _ => by kernel_rfl⟩) hH3 ?_
      change wpAnyH _ _ _ _ _ _ _ (Act.put _ (some 39) _) _
      simp only [Act.put, List.setIfInBounds_toArray, List.set_cons_zero, List.set_cons_succ]
      refine wpAnyH_take (i := 8) (v := (.bool false)) rfl (by kernel_rfl) (by kernel_rfl) (by kernel_rfl) (fun _ _ _ h => h) (Or.inl ⟨by kernel_rfl, fun _ _ => by kernel_rfl⟩) hH3 ?_
      change wpAnyH _ _ _ _ _ _ _ (Act.put _ (some 40) _) _
      simp only [Act.put, List.setIfInBounds_toArray, List.set_cons_zero, List.set_cons_succ]
      refine wpAnyH_take (i := 9) (v := (.agg #[X1, X2])) rfl (by kernel_rfl) (by kernel_rfl) (by kernel_rfl) (fun _ _ _ h => h) (Or.inl ⟨by kernel_rfl, ?y8⟩) hH3 ?r8
      case y8 => (intro w0 hS0; (try dsimp only at hS0); go_simp)
      change wpAnyH _ _ _ _ _ _ _ (Act.put _ (some 41) _) _
      simp only [Act.put, List.setIfInBounds_toArray, List.set_cons_zero, List.set_cons_succ]
      refine wpAnyH_take (i := 10) (v := (.agg #[Y1, Y2])) rfl (by kernel_rfl) (by kernel_rfl) (by kernel_rfl) (fun _ _ _ h => h) (Or.inl ⟨by kernel_rfl, ?y9⟩) hH3 ?r9
      case y9 => (intro w0 hS0; (try dsimp only at hS0); go_simp)
      change wpAnyH _ _ _ _ _ _ _ (Act.put _ (some 42) _) _
      simp only [Act.put, List.setIfInBounds_toArray, List.set_cons_zero, List.set_cons_succ]
      refine wpAnyH_take (i := 12) (v := (.agg #[Y1, Y2])) rfl (by kernel_rfl) (by kernel_rfl) (by kernel_rfl) (fun _ _ _ h => h) (Or.inl ⟨by kernel_rfl, ?y10⟩) hH3 ?r10
      case y10 => (intro w0 hS0; (try dsimp only at hS0); go_simp)
      change wpAnyH _ _ _ _ _ _ _ (Act.put _ (some 44) _) _
      simp only [Act.put, List.setIfInBounds_toArray, List.set_cons_zero, List.set_cons_succ]
      refine wpAnyH_take (i := 13) (v := (.agg #[X1, X2])) rfl (by kernel_rfl) (by kernel_rfl) (by kernel_rfl) (fun _ _ _ h => h) (Or.inl ⟨by kernel_rfl, ?y11⟩) hH3 ?r11
      case y11 => (intro w0 hS0; (try dsimp only at hS0); go_simp)
      change wpAnyH _ _ _ _ _ _ _ (Act.put _ (some 45) _) _
      simp only [Act.put, List.setIfInBounds_toArray, List.set_cons_zero, List.set_cons_succ]
      refine wpAnyH_ready (rs := [11]) (by kernel_rfl) (by simp) ?_
      refine AllReadyH.cons rfl (fun K hK0 => ?_) AllReadyH.nil
      have hK := hK0.out
      clear hK0
      rw [if_pos (by kernel_rfl)]
      refine wp_go_call 42 #[(.agg #[X1, X2]), (.agg #[Y1, Y2])] (fun _ => by kernel_rfl) ((Mul_small _ _ x y 8 8 _ (by exact B3.ix) (by exact B3.iy) (by decide) (by exact HF.out.1) (by decide) (by exact HF.out.2.1)).mono ?k12)
      rintro e w4 ⟨v4, rfl, i4_4, hb4⟩
      have B4 := B3.step hb4 rfl
      have bl4 := begun_then bl3 hb4 rfl rfl rfl rfl
      clear B3 bl3 hb4
      refine ⟨v4, rfl, hK _ _ (B4.cells) (fun hH4 => ?_)⟩
      clear hK K hH3
      change wpAnyH _ _ _ _ _ _ _ (Act.put _ (some 43) _) _
      simp only [Act.put, List.setIfInBounds_toArray, List.set_cons_zero, List.set_cons_succ]
      refine wpAnyH_ready (rs := [14]) (by kernel_rfl) (by simp) ?_
      refine AllReadyH.cons rfl (fun K hK0 => ?_) AllReadyH.nil
      have hK := hK0.out
      clear hK0
      rw [if_pos (by kernel_rfl)]
      refine wp_go_call 42 #[(.agg #[Y1, Y2]), (.agg #[X1, X2])] (fun _ => by kernel_rfl) ((Mul_small _ _ y x 8 8 _ (by exact B4.iy) (by exact B4.ix) (by decide) (by exact HF.out.2.1) (by decide) (by exact HF.out.1)).mono ?k13)
      rintro e w5 ⟨v5, rfl, i5_5, hb5⟩
      have B5 := B4.step hb5 rfl
      have bl5 := begun_then bl4 hb5 rfl rfl rfl rfl
      have i4_5 := i4_4.step hb5 rfl
      clear B4 bl4 hb5 i4_4
      refine ⟨v5, rfl, hK _ _ (B5.cells) (fun hH5 => ?_)⟩
      clear hK K hH4
      change wpAnyH _ _ _ _ _ _ _ (Act.put _ (some 46) _) _
      simp only [Act.put, List.setIfInBounds_toArray, List.set_cons_zero, List.set_cons_succ]
      refine wpAnyH_ready (rs := [15]) (by kernel_rfl) (by simp) ?_
      refine AllReadyH.cons rfl (fun K hK0 => ?_) AllReadyH.nil
      have hK := hK0.out
      clear hK0
      rw [if_pos (by kernel_rfl)]
      refine wp_go_call 65 #[v4, v5] (fun _ => by kernel_rfl) ((same_true _ _ (x * y) (y * x) 16 _ (by exact i4_5) (by exact i5_5) (by decide) (by exact (HF.out.1.mul HF.out.2.1)) (by exact (HF.out.2.1.mul HF.out.1)) (by exact Int.mul_comm x y)).mono ?k14)
      rintro e w6 ⟨rfl, hb6⟩
      have B6 := B5.step hb6 rfl
      have bl6 := begun_then bl5 hb6 rfl rfl rfl rfl
      clear B5 bl5 hb6 i4_5 i5_5
      refine ⟨(.bool true), rfl, hK _ _ (B6.cells) (fun hH6 => ?_)⟩
      clear hK K hH5
      change wpAnyH _ _ _ _ _ _ _ (Act.put _ (some 47) _) _
      simp only [Act.put, List.setIfInBounds_toArray, List.set_cons_zero, List.set_cons_succ]
      refine wpAnyH_take (i := 16) (v := (.bool false)) rfl (by kernel_rfl) (by kernel_rfl) (by kernel_rfl) (fun _ _ _ h => h) (Or.inl ⟨by kernel_rfl, fun _ _ => by kernel_rfl⟩) hH6 ?_
      change wpAnyH _ _ _ _ _ _ _ (Act.put _ (some 48) _) _
      simp only [Act.put, List.setIfInBounds_toArray, List.set_cons_zero, List.set_cons_succ]
      refine wpAnyH_take (i := 17) (v := (.bool false)) rfl (by kernel_rfl) (by kernel_rfl) (by kernel_rfl) (fun _ _ _ h => h) (Or.inl ⟨by kernel_rfl, fun _ _ => by kernel_rfl⟩) hH6 ?_
      change wpAnyH _ _ _ _ _ _ _ (Act.put _ (some 49) _) _
      simp only [Act.put, List.setIfInBounds_toArray, List.set_cons_zero, List.set_cons_succ]
      refine wpAnyH_take (i := 18) (v := (.bool false)) rfl (by kernel_rfl) (by kernel_rfl) (by kernel_rfl) (fun _ _ _ h => h) (Or.inl ⟨by kernel_rfl, fun _ _ => by kernel_rfl⟩) hH6 ?_
      change wpAnyH _ _ _ _ _ _ _ (Act.put _ (some 50) _) _
      simp only [Act.put, List.setIfInBounds_toArray, List.set_cons_zero, List.set_cons_succ]
      refine wpAnyH_take (i := 19) (v := (.agg #[X1, X2])) rfl (by kernel_rfl) (by kernel_rfl) (by kernel_rfl) (fun _ _ _ h => h) (Or.inl ⟨by kernel_rfl, ?y15⟩) hH6 ?r15
      case y15 => (intro w0 hS0; (try dsimp only at hS0); go_simp)
      change wpAnyH _ _ _ _ _ _ _ (Act.put _ (some 51) _) _
      simp only [Act.put, List.setIfInBounds_toArray, List.set_cons_zero, List.set_cons_succ]
      refine wpAnyH_take (i := 20) (v := (.agg #[Y1, Y2])) rfl (by kernel_rfl) (by kernel_rfl) (by kernel_rfl) (fun _ _ _ h => h) (Or.inl ⟨by kernel_rfl, ?y16⟩) hH6 ?r16
      case y16 => (intro w0 hS0; (try dsimp only at hS0); go_simp)
      change wpAnyH _ _ _ _ _ _ _ (Act.put _ (some 52) _) _
      simp only [Act.put, List.setIfInBounds_toArray, List.set_cons_zero, List.set_cons_succ]
      refine wpAnyH_take (i := 22) (v := (.agg #[Z1, Z2])) rfl (by kernel_rfl) (by kernel_rfl) (by kernel_rfl) (fun _ _ _ h => h) (Or.inl ⟨by kernel_rfl, ?y17⟩) hH6 ?r17
      case y17 => (intro w0 hS0; (try dsimp only at hS0); go_simp)
      change wpAnyH _ _ _ _ _ _ _ (Act.put _ (some 54) _) _
      simp only [Act.put, List.setIfInBounds_toArray, List.set_cons_zero, List.set_cons_succ]
      refine wpAnyH_take (i := 24) (v := (.agg #[X1, X2])) rfl (by kernel_rfl) (by kernel_rfl) (by kernel_rfl) (fun _ _ _ h => h) (Or.inl ⟨by kernel_rfl, ?y18⟩) hH6 ?r18
      case y18 => (intro w0 hS0; (try dsimp only at hS0); go_simp)
      change wpAnyH _ _ _ _ _ _ _ (Act.put _ (some 56) _) _
      simp only [Act.put, List.setIfInBounds_toArray, List.set_cons_zero, List.set_cons_succ]
      refine wpAnyH_take (i := 25) (v := (.agg #[Y1, Y2])) rfl (by kernel_rfl) (by kernel_rfl) (by kernel_rfl) (fun _ _ _ h => h) (Or.inl ⟨by kernel_rfl, ?y19⟩) hH6 ?r19
      case y19 => (intro w0 hS0; (try dsimp only at hS0); go_simp)
      change wpAnyH _ _ _ _ _ _ _ (Act.put _ (some 57) _) _
      simp only [Act.put, List.setIfInBounds_toArray, List.set_cons_zero, List.set_cons_succ]
      refine wpAnyH_take (i := 26) (v := (.agg #[Z1, Z2])) rfl (by kernel_rfl) (by kernel_rfl) (by kernel_rfl) (fun _ _ _ h => h) (Or.inl ⟨by kernel_rfl, ?y20⟩) hH6 ?r20
      case y20 => (intro w0 hS0; (try dsimp only at hS0); go_simp)
      change wpAnyH _ _ _ _ _ _ _ (Act.put _ (some 58) _) _
      simp only [Act.put, List.setIfInBounds_toArray, List.set_cons_zero, List.set_cons_succ]
      refine wpAnyH_ready (rs := [21]) (by kernel_rfl) (by simp) ?_
      refine AllReadyH.cons rfl (fun K hK0 => ?_) AllReadyH.nil
      have hK := hK0.out
      clear hK0
      rw [if_pos (by kernel_rfl)]
      refine wp_go_call 38 #[(.agg #[X1, X2]), (.agg #[Y1, Y2])] (fun _ => by kernel_rfl) ((Add_any _ _ x y 8 _ (by exact B6.ix) (by exact B6.iy) (by decide) (by exact HF.out.1) (by exact HF.out.2.1)).mono ?k21)
      rintro e w7 ⟨v7, rfl, i7_7, hb7⟩
      have B7 := B6.step hb7 rfl
      have bl7 := begun_then bl6 hb7 rfl rfl rfl rfl
      clear B6 bl6 hb7
      refine ⟨v7, rfl, hK _ _ (B7.cells) (fun hH7 => ?_)⟩
      clear hK K hH6
      change wpAnyH _ _ _ _ _ _ _ (Act.put _ (some 53) _) _
      simp only [Act.put, List.setIfInBounds_toArray, List.set_cons_zero, List.set_cons_succ]
      refine wpAnyH_ready (rs := [23]) (by kernel_rfl) (by simp) ?_
      refine AllReadyH.cons rfl (fun K hK0 => ?_) AllReadyH.nil
      have hK := hK0.out
      clear hK0
      rw [if_pos (by kernel_rfl)]
      refine wp_go_call 38 #[v7, (.agg #[Z1, Z2])] (fun _ => by kernel_rfl) ((Add_any _ _ (x + y) z 9 _ (by exact i7_7) (by exact B7.iz) (by decide) (by exact (HF.out.1.add HF.out.2.1)) (by exact (HF.out.2.2.up (by decide : 8 ≤ 9)))).mono ?k22)
      rintro e w8 ⟨v8, rfl, i8_8, hb8⟩
      have B8 := B7.step hb8 rfl
      have bl8 := begun_then bl7 hb8 rfl rfl rfl rfl
      clear B7 bl7 hb8 i7_7
      refine ⟨v8, rfl, hK _ _ (B8.cells) (fun hH8 => ?_)⟩
      clear hK K hH7
      change wpAnyH _ _ _ _ _ _ _ (Act.put _ (some 55) _) _
      simp only [Act.put, List.setIfInBounds_toArray, List.set_cons_zero, List.set_cons_succ]
      refine wpAnyH_ready (rs := [27]) (by kernel_rfl) (by simp) ?_
      refine AllReadyH.cons rfl (fun K hK0 => ?_) AllReadyH.nil
      have hK := hK0.out
      clear hK0
      rw [if_pos (by kernel_rfl)]
      refine wp_go_call 38 #[(.agg #[Y1, Y2]), (.agg #[Z1, Z2])] (fun _ => by kernel_rfl) ((Add_any _ _ y z 8 _ (by exact B8.iy) (by exact B8.iz) (by decide) (by exact HF.out.2.1) (by exact HF.out.2.2)).mono ?k23)
      rintro e w9 ⟨v9, rfl, i9_9, hb9⟩
      have B9 := B8.step hb9 rfl
      have bl9 := begun_then bl8 hb9 rfl rfl rfl rfl
      have i8_9 := i8_8.step hb9 rfl
      clear B8 bl8 hb9 i8_8
      refine ⟨v9, rfl, hK _ _ (B9.cells) (fun hH9 => ?_)⟩
      clear hK K hH8
      change wpAnyH _ _ _ _ _ _ _ (Act.put _ (some 59) _) _
      simp only [Act.put, List.setIfInBounds_toArray, List.set_cons_zero, List.set_cons_succ]
      refine wpAnyH_ready (rs := [28]) (by kernel_rfl) (by simp) ?_
      refine AllReadyH.cons rfl (fun K hK0 => ?_) AllReadyH.nil
      have hK := hK0.out
      clear hK0
      rw [if_pos (by kernel_rfl)]
      refine wp_go_call 38 #[(.agg #[X1, X2]), v9] (fun _ => by kernel_rfl) ((Add_any _ _ x (y + z) 9 _ (by exact B9.ix) (by exact i9_9) (by decide) (by exact (HF.out.1.up (by decide : 8 ≤ 9))) (by exact (HF.out.2.1.add HF.out.2.2))).mono ?k24)
      rintro e w10 ⟨v10, rfl, i10_10, hb10⟩
      have B10 := B9.step hb10 rfl
      have bl10 := begun_then bl9 hb10 rfl rfl rfl rfl
      have i8_10 := i8_9.step hb10 rfl
      clear B9 bl9 hb10 i8_9 i9_9
      refine ⟨v10, rfl, hK _ _ (B10.cells) (fun hH10 => ?_)⟩
      clear hK K hH9
      change wpAnyH _ _ _ _ _ _ _ (Act.put _ (some 60) _) _
      simp only [Act.put, List.setIfInBounds_toArray, List.set_cons_zero, List.set_cons_succ]
      refine wpAnyH_ready (rs := [29]) (by kernel_rfl) (by simp) ?_
      refine AllReadyH.cons rfl (fun K hK0 => ?_) AllReadyH.nil
      have hK := hK0.out
      clear hK0
      rw [if_pos (by kernel_rfl)]
      refine wp_go_call 65 #[v8, v10] (fun _ => by kernel_rfl) ((same_true _ _ ((x + y) + z) (x + (y + z)) 10 _ (by exact i8_10) (by exact i10_10) (by decide) (by exact ((HF.out.1.add HF.out.2.1).add (HF.out.2.2.up (by decide : 8 ≤ 9)))) (by exact ((HF.out.1.up (by decide : 8 ≤ 9)).add (HF.out.2.1.add HF.out.2.2))) (by exact Int.add_assoc x y z)).mono ?k25)
      rintro e w11 ⟨rfl, hb11⟩
      have B11 := B10.step hb11 rfl
      have bl11 := begun_then bl10 hb11 rfl rfl rfl rfl
      clear B10 bl10 hb11 i8_10 i10_10
      refine ⟨(.bool true), rfl, hK _ _ (B11.cells) (fun hH11 => ?_)⟩
      clear hK K hH10
      change wpAnyH _ _ _ _ _ _ _ (Act.put _ (some 61) _) _
      simp only [Act.put, List.setIfInBounds_toArray, List.set_cons_zero, List.set_cons_succ]
      refine wpAnyH_take (i := 30) (v := (.bool false)) rfl (by kernel_rfl) (by kernel_rfl) (by kernel_rfl) (fun _ _ _ h => h) (Or.inl ⟨by kernel_rfl, fun _ _ => by kernel_rfl⟩) hH11 ?_
      change wpAnyH _ _ _ _ _ _ _ (Act.put _ (some 62) _) _
      simp only [Act.put, List.setIfInBounds_toArray, List.set_cons_zero, List.set_cons_succ]
      refine wpAnyH_take (i := 31) (v := (.bool false)) rfl (by kernel_rfl) (by kernel_rfl) (by kernel_rfl) (fun _ _ _ h => h) (Or.inl ⟨by kernel_rfl, fun _ _ => by kernel_rfl⟩) hH11 ?_
      change wpAnyH _ _ _ _ _ _ _ (Act.put _ (some 63) _) _
      simp only [Act.put, List.setIfInBounds_toArray, List.set_cons_zero, List.set_cons_succ]
      refine wpAnyH_take (i := 32) (v := (.bool false)) rfl (by kernel_rfl) (by kernel_rfl) (by kernel_rfl) (fun _ _ _ h => h) (Or.inl ⟨by kernel_rfl, fun _ _ => by kernel_rfl⟩) hH11 ?_
      change wpAnyH _ _ _ _ _ _ _ (Act.put _ (some 64) _) _
      simp only [Act.put, List.setIfInBounds_toArray, List.set_cons_zero, List.set_cons_succ]
      refine wpAnyH_take (i := 33) (v := (.agg #[X1, X2])) rfl (by kernel_rfl) (by kernel_rfl) (by kernel_rfl) (fun _ _ _ h => h) (Or.inl ⟨by kernel_rfl, ?y26⟩) hH11 ?r26
      case y26 => (intro w0 hS0; (try dsimp only at hS0); go_simp)
      change wpAnyH _ _ _ _ _ _ _ (Act.put _ (some 65) _) _
      simp only [Act.put, List.setIfInBounds_toArray, List.set_cons_zero, List.set_cons_succ]
      refine wpAnyH_take (i := 34) (v := (.agg #[Y1, Y2])) rfl (by kernel_rfl) (by kernel_rfl) (by kernel_rfl) (fun _ _ _ h => h) (Or.inl ⟨by kernel_rfl, ?y27⟩) hH11 ?r27
      case y27 => (intro w0 hS0; (try dsimp only at hS0); go_simp)
      change wpAnyH _ _ _ _ _ _ _ (Act.put _ (some 66) _) _
      simp only [Act.put, List.setIfInBounds_toArray, List.set_cons_zero, List.set_cons_succ]
      refine wpAnyH_take (i := 36) (v := (.agg #[Z1, Z2])) rfl (by kernel_rfl) (by kernel_rfl) (by kernel_rfl) (fun _ _ _ h => h) (Or.inl ⟨by kernel_rfl, ?y28⟩) hH11 ?r28
      case y28 => (intro w0 hS0; (try dsimp only at hS0); go_simp)
      change wpAnyH _ _ _ _ _ _ _ (Act.put _ (some 68) _) _
      simp only [Act.put, List.setIfInBounds_toArray, List.set_cons_zero, List.set_cons_succ]
      refine wpAnyH_take (i := 38) (v := (.agg #[X1, X2])) rfl (by kernel_rfl) (by kernel_rfl) (by kernel_rfl) (fun _ _ _ h => h) (Or.inl ⟨by kernel_rfl, ?y29⟩) hH11 ?r29
      case y29 => (intro w0 hS0; (try dsimp only at hS0); go_simp)
      change wpAnyH _ _ _ _ _ _ _ (Act.put _ (some 70) _) _
      simp only [Act.put, List.setIfInBounds_toArray, List.set_cons_zero, List.set_cons_succ]
      refine wpAnyH_take (i := 39) (v := (.agg #[Y1, Y2])) rfl (by kernel_rfl) (by kernel_rfl) (by kernel_rfl) (fun _ _ _ h => h) (Or.inl ⟨by kernel_rfl, ?y30⟩) hH11 ?r30
      case y30 => (intro w0 hS0; (try dsimp only at hS0); go_simp)
      change wpAnyH _ _ _ _ _ _ _ (Act.put _ (some 71) _) _
      simp only [Act.put, List.setIfInBounds_toArray, List.set_cons_zero, List.set_cons_succ]
      refine wpAnyH_take (i := 40) (v := (.agg #[Z1, Z2])) rfl (by kernel_rfl) (by kernel_rfl) (by kernel_rfl) (fun _ _ _ h => h) (Or.inl ⟨by kernel_rfl, ?y31⟩) hH11 ?r31
      case y31 => (intro w0 hS0; (try dsimp only at hS0); go_simp)
      change wpAnyH _ _ _ _ _ _ _ (Act.put _ (some 72) _) _
      simp only [Act.put, List.setIfInBounds_toArray, List.set_cons_zero, List.set_cons_succ]
      refine wpAnyH_ready (rs := [35]) (by kernel_rfl) (by simp) ?_
      refine AllReadyH.cons rfl (fun K hK0 => ?_) AllReadyH.nil
      have hK := hK0.out
      clear hK0
      rw [if_pos (by kernel_rfl)]
      refine wp_go_call 42 #[(.agg #[X1, X2]), (.agg #[Y1, Y2])] (fun _ => by kernel_rfl) ((Mul_small _ _ x y 8 8 _ (by exact B11.ix) (by exact B11.iy) (by decide) (by exact HF.out.1) (by decide) (by exact HF.out.2.1)).mono ?k32)
      rintro e w12 ⟨v12, rfl, i12_12, hb12⟩
      have B12 := B11.step hb12 rfl
      have bl12 := begun_then bl11 hb12 rfl rfl rfl rfl
      clear B11 bl11 hb12
      refine ⟨v12, rfl, hK _ _ (B12.cells) (fun hH12 => ?_)⟩
      clear hK K hH11
      change wpAnyH _ _ _ _ _ _ _ (Act.put _ (some 67) _) _
      simp only [Act.put, List.setIfInBounds_toArray, List.set_cons_zero, List.set_cons_succ]
      refine wpAnyH_ready (rs := [37]) (by kernel_rfl) (by simp) ?_
      refine AllReadyH.cons rfl (fun K hK0 => ?_) AllReadyH.nil
      have hK := hK0.out
      clear hK0
      rw [if_pos (by kernel_rfl)]
      refine wp_go_call 42 #[v12, (.agg #[Z1, Z2])] (fun _ => by kernel_rfl) ((Mul_small _ _ (x * y) z 16 8 _ (by exact i12_12) (by exact B12.iz) (by decide) (by exact (HF.out.1.mul HF.out.2.1)) (by decide) (by exact HF.out.2.2)).mono ?k33)
      rintro e w13 ⟨v13, rfl, i13_13, hb13⟩
      have B13 := B12.step hb13 rfl
      have bl13 := begun_then bl12 hb13 rfl rfl rfl rfl
      clear B12 bl12 hb13 i12_12
      refine ⟨v13, rfl, hK _ _ (B13.cells) (fun hH13 => ?_)⟩
      clear hK K hH12
      change wpAnyH _ _ _ _ _ _ _ (Act.put _ (some 69) _) _
      simp only [Act.put, List.setIfInBounds_toArray, List.set_cons_zero, List.set_cons_succ]
      refine wpAnyH_ready (rs := [41]) (by kernel_rfl) (by simp) ?_
      refine AllReadyH.cons rfl (fun K hK0 => ?_) AllReadyH.nil
      have hK := hK0.out
      clear hK0
      rw [if_pos (by kernel_rfl)]
      refine wp_go_call 42 #[(.agg #[Y1, Y2]), (.agg #[Z1, Z2])] (fun _ => by kernel_rfl) ((Mul_small _ _ y z 8 8 _ (by exact B13.iy) (by exact B13.iz) (by decide) (by exact HF.out.2.1) (by decide) (by exact HF.out.2.2)).mono ?k34)
      rintro e w14 ⟨v14, rfl, i14_14, hb14⟩
      have B14 := B13.step hb14 rfl
      have bl14 := begun_then bl13 hb14 rfl rfl rfl rfl
      have i13_14 := i13_13.step hb14 rfl
      clear B13 bl13 hb14 i13_13
      refine ⟨v14, rfl, hK _ _ (B14.cells) (fun hH14 => ?_)⟩
      clear hK K hH13
      change wpAnyH _ _ _ _ _ _ _ (Act.put _ (some 73) _) _
      simp only [Act.put, List.setIfInBounds_toArray, List.set_cons_zero, List.set_cons_succ]
      refine wpAnyH_ready (rs := [42]) (by kernel_rfl) (by simp) ?_
      refine AllReadyH.cons rfl (fun K hK0 => ?_) AllReadyH.nil
      have hK := hK0.out
      clear hK0
      rw [if_pos (by kernel_rfl)]
      refine wp_go_call 42 #[(.agg #[X1, X2]), v14] (fun _ => by kernel_rfl) ((Mul_small _ _ x (y * z) 8 16 _ (by exact B14.ix) (by exact i14_14) (by decide) (by exact HF.out.1) (by decide) (by exact (HF.out.2.1.mul HF.out.2.2))).mono ?k35)
      rintro e w15 ⟨v15, rfl, i15_15, hb15⟩
      have B15 := B14.step hb15 rfl
      have bl15 := begun_then bl14 hb15 rfl rfl rfl rfl
      have i13_15 := i13_14.step hb15 rfl
      clear B14 bl14 hb15 i13_14 i14_14
      refine ⟨v15, rfl, hK _ _ (B15.cells) (fun hH15 => ?_)⟩
      clear hK K hH14
      change wpAnyH _ _ _ _ _ _ _ (Act.put _ (some 74) _) _
      simp only [Act.put, List.setIfInBounds_toArray, List.set_cons_zero, List.set_cons_succ]
      refine wpAnyH_ready (rs := [43]) (by kernel_rfl) (by simp) ?_
      refine AllReadyH.cons rfl (fun K hK0 => ?_) AllReadyH.nil
      have hK := hK0.out
      clear hK0
      rw [if_pos (by kernel_rfl)]
      refine wp_go_call 65 #[v13, v15] (fun _ => by kernel_rfl) ((same_true _ _ ((x * y) * z) (x * (y * z)) 24 _ (by exact i13_15) (by exact i15_15) (by decide) (by exact ((HF.out.1.mul HF.out.2.1).mul HF.out.2.2)) (by exact (HF.out.1.mul (HF.out.2.1.mul HF.out.2.2))) (by exact Int.mul_assoc x y z)).mono ?k36)
      rintro e w16 ⟨rfl, hb16⟩
      have B16 := B15.step hb16 rfl
      have bl16 := begun_then bl15 hb16 rfl rfl rfl rfl
      clear B15 bl15 hb16 i13_15 i15_15
      refine ⟨(.bool true), rfl, hK _ _ (B16.cells) (fun hH16 => ?_)⟩
      clear hK K hH15
      change wpAnyH _ _ _ _ _ _ _ (Act.put _ (some 75) _) _
      simp only [Act.put, List.setIfInBounds_toArray, List.set_cons_zero, List.set_cons_succ]
      refine wpAnyH_take (i := 44) (v := (.bool false)) rfl (by kernel_rfl) (by kernel_rfl) (by kernel_rfl) (fun _ _ _ h => h) (Or.inl ⟨by kernel_rfl, fun _ _ => by kernel_rfl⟩) hH16 ?_
      change wpAnyH _ _ _ _ _ _ _ (Act.put _ (some 76) _) _
      simp only [Act.put, List.setIfInBounds_toArray, List.set_cons_zero, List.set_cons_succ]
      refine wpAnyH_take (i := 45) (v := (.bool false)) rfl (by kernel_rfl) (by kernel_rfl) (by kernel_rfl) (fun _ _ _ h => h) (Or.inl ⟨by kernel_rfl, fun _ _ => by kernel_rfl⟩) hH16 ?_
      change wpAnyH _ _ _ _ _ _ _ (Act.put _ (some 77) _) _
      simp only [Act.put, List.setIfInBounds_toArray, List.set_cons_zero, List.set_cons_succ]
      refine wpAnyH_done (by kernel_rfl) ?_ _
      go_wp2_with fail
      go_meet
      exact ⟨rfl, B16, bl16⟩
    case rest =>
      clear Bs bls
      obtain ⟨rfl, Bs, bls⟩ := hcut
      go_upto_region 7 with fail
      go_cut [109] (fun s wx => s = .bool false ∧ XYZ wx r8 r9 r10 X1 X2 Y1 Y2 Z1 Z2 x y z ∧ Below w.heap.size w wx)
      case first => as_aux_lemma =>
        refine wp_region_held_drew (S := (fun w' => w'.cell? ⟨r8, 0, none⟩ = some X1 ∧ w'.cell? ⟨r8, 1, none⟩ = some X2 ∧ w'.cell? ⟨r9, 0, none⟩ = some Y1 ∧ w'.cell? ⟨r9, 1, none⟩ = some Y2 ∧ w'.cell? ⟨r10, 0, none⟩ = some Z1 ∧ w'.cell? ⟨r10, 1, none⟩ = some Z2)) (by kernel_rfl) (Bs.cells) (fun hH0 => ?_)
        refine wpAnyH_take (i := 0) (v := (.agg #[X1, X2])) rfl (by kernel_rfl) (by kernel_rfl) (by kernel_rfl) (fun _ _ _ h => h) (Or.inl ⟨by kernel_rfl, ?y37⟩) hH0 ?r37
        case y37 => (intro w0 hS0; (try dsimp only at hS0); go_simp)
        change wpAnyH _ _ _ _ _ _ _ (Act.put _ (some 78) _) _
        simp only [Act.put, List.setIfInBounds_toArray, List.set_cons_zero, List.set_cons_succ]
        refine wpAnyH_take (i := 1) (v := (.agg #[Y1, Y2])) rfl (by kernel_rfl) (by kernel_rfl) (by kernel_rfl) (fun _ _ _ h => h) (Or.inl ⟨by kernel_rfl, ?y38⟩) hH0 ?r38
        case y38 => (intro w0 hS0; (try dsimp only at hS0); go_simp)
        change wpAnyH _ _ _ _ _ _ _ (Act.put _ (some 79) _) _
        simp only [Act.put, List.setIfInBounds_toArray, List.set_cons_zero, List.set_cons_succ]
        refine wpAnyH_take (i := 2) (v := (.agg #[Z1, Z2])) rfl (by kernel_rfl) (by kernel_rfl) (by kernel_rfl) (fun _ _ _ h => h) (Or.inl ⟨by kernel_rfl, ?y39⟩) hH0 ?r39
        case y39 => (intro w0 hS0; (try dsimp only at hS0); go_simp)
        change wpAnyH _ _ _ _ _ _ _ (Act.put _ (some 80) _) _
        simp only [Act.put, List.setIfInBounds_toArray, List.set_cons_zero, List.set_cons_succ]
        refine wpAnyH_take (i := 5) (v := (.agg #[X1, X2])) rfl (by kernel_rfl) (by kernel_rfl) (by kernel_rfl) (fun _ _ _ h => h) (Or.inl ⟨by kernel_rfl, ?y40⟩) hH0 ?r40
        case y40 => (intro w0 hS0; (try dsimp only at hS0); go_simp)
        change wpAnyH _ _ _ _ _ _ _ (Act.put _ (some 83) _) _
        simp only [Act.put, List.setIfInBounds_toArray, List.set_cons_zero, List.set_cons_succ]
        refine wpAnyH_take (i := 6) (v := (.agg #[Y1, Y2])) rfl (by kernel_rfl) (by kernel_rfl) (by kernel_rfl) (fun _ _ _ h => h) (Or.inl ⟨by kernel_rfl, ?y41⟩) hH0 ?r41
        case y41 => (intro w0 hS0; (try dsimp only at hS0); go_simp)
        change wpAnyH _ _ _ _ _ _ _ (Act.put _ (some 84) _) _
        simp only [Act.put, List.setIfInBounds_toArray, List.set_cons_zero, List.set_cons_succ]
        refine wpAnyH_take (i := 8) (v := (.agg #[X1, X2])) rfl (by kernel_rfl) (by kernel_rfl) (by kernel_rfl) (fun _ _ _ h => h) (Or.inl ⟨by kernel_rfl, ?y42⟩) hH0 ?r42
        case y42 => (intro w0 hS0; (try dsimp only at hS0); go_simp)
        change wpAnyH _ _ _ _ _ _ _ (Act.put _ (some 86) _) _
        simp only [Act.put, List.setIfInBounds_toArray, List.set_cons_zero, List.set_cons_succ]
        refine wpAnyH_take (i := 9) (v := (.agg #[Z1, Z2])) rfl (by kernel_rfl) (by kernel_rfl) (by kernel_rfl) (fun _ _ _ h => h) (Or.inl ⟨by kernel_rfl, ?y43⟩) hH0 ?r43
        case y43 => (intro w0 hS0; (try dsimp only at hS0); go_simp)
        change wpAnyH _ _ _ _ _ _ _ (Act.put _ (some 87) _) _
        simp only [Act.put, List.setIfInBounds_toArray, List.set_cons_zero, List.set_cons_succ]
        refine wpAnyH_ready (rs := [3]) (by kernel_rfl) (by simp) ?_
        refine AllReadyH.cons rfl (fun K hK0 => ?_) AllReadyH.nil
        have hK := hK0.out
        clear hK0
        rw [if_pos (by kernel_rfl)]
        refine wp_go_call 38 #[(.agg #[Y1, Y2]), (.agg #[Z1, Z2])] (fun _ => by kernel_rfl) ((Add_any _ _ y z 8 _ (by exact Bs.iy) (by exact Bs.iz) (by decide) (by exact HF.out.2.1) (by exact HF.out.2.2)).mono ?k44)
        rintro e w1 ⟨v1, rfl, i1_1, hb1⟩
        have B1 := Bs.step hb1 rfl
        have bl1 := begun_then bls hb1 rfl rfl rfl rfl
        clear Bs bls hb1
        refine ⟨v1, rfl, hK _ _ (B1.cells) (fun hH1 => ?_)⟩
        clear hK K hH0
        change wpAnyH _ _ _ _ _ _ _ (Act.put _ (some 81) _) _
        simp only [Act.put, List.setIfInBounds_toArray, List.set_cons_zero, List.set_cons_succ]
        refine wpAnyH_ready (rs := [4]) (by kernel_rfl) (by simp) ?_
        refine AllReadyH.cons rfl (fun K hK0 => ?_) AllReadyH.nil
        have hK := hK0.out
        clear hK0
        rw [if_pos (by kernel_rfl)]
        refine wp_go_call 42 #[(.agg #[X1, X2]), v1] (fun _ => by kernel_rfl) ((Mul_small _ _ x (y + z) 8 9 _ (by exact B1.ix) (by exact i1_1) (by decide) (by exact HF.out.1) (by decide) (by exact (HF.out.2.1.add HF.out.2.2))).mono ?k45)
        rintro e w2 ⟨v2, rfl, i2_2, hb2⟩
        have B2 := B1.step hb2 rfl
        have bl2 := begun_then bl1 hb2 rfl rfl rfl rfl
        clear B1 bl1 hb2 i1_1
        refine ⟨v2, rfl, hK _ _ (B2.cells) (fun hH2 => ?_)⟩
        clear hK K hH1
        change wpAnyH _ _ _ _ _ _ _ (Act.put _ (some 82) _) _
        simp only [Act.put, List.setIfInBounds_toArray, List.set_cons_zero, List.set_cons_succ]
        refine wpAnyH_ready (rs := [7]) (by kernel_rfl) (by simp) ?_
        refine AllReadyH.cons rfl (fun K hK0 => ?_) AllReadyH.nil
        have hK := hK0.out
        clear hK0
        rw [if_pos (by kernel_rfl)]
        refine wp_go_call 42 #[(.agg #[X1, X2]), (.agg #[Y1, Y2])] (fun _ => by kernel_rfl) ((Mul_small _ _ x y 8 8 _ (by exact B2.ix) (by exact B2.iy) (by decide) (by exact HF.out.1) (by decide) (by exact HF.out.2.1)).mono ?k46)
        rintro e w3 ⟨v3, rfl, i3_3, hb3⟩
        have B3 := B2.step hb3 rfl
        have bl3 := begun_then bl2 hb3 rfl rfl rfl rfl
        have i2_3 := i2_2.step hb3 rfl
        clear B2 bl2 hb3 i2_2
        refine ⟨v3, rfl, hK _ _ (B3.cells) (fun hH3 => ?_)⟩
        clear hK K hH2
        change wpAnyH _ _ _ _ _ _ _ (Act.put _ (some 85) _) _
        simp only [Act.put, List.setIfInBounds_toArray, List.set_cons_zero, List.set_cons_succ]
        refine wpAnyH_ready (rs := [10]) (by kernel_rfl) (by simp) ?_
        refine AllReadyH.cons rfl (fun K hK0 => ?_) AllReadyH.nil
        have hK := hK0.out
        clear hK0
        rw [if_pos (by kernel_rfl)]
        refine wp_go_call 42 #[(.agg #[X1, X2]), (.agg #[Z1, Z2])] (fun _ => by kernel_rfl) ((Mul_small _ _ x z 8 8 _ (by exact B3.ix) (by exact B3.iz) (by decide) (by exact HF.out.1) (by decide) (by exact HF.out.2.2)).mono ?k47)
        rintro e w4 ⟨v4, rfl, i4_4, hb4⟩
        have B4 := B3.step hb4 rfl
        have bl4 := begun_then bl3 hb4 rfl rfl rfl rfl
        have i2_4 := i2_3.step hb4 rfl
        have i3_4 := i3_3.step hb4 rfl
        clear B3 bl3 hb4 i2_3 i3_3
        refine ⟨v4, rfl, hK _ _ (B4.cells) (fun hH4 => ?_)⟩
        clear hK K hH3
        change wpAnyH _ _ _ _ _ _ _ (Act.put _ (some 88) _) _
        simp only [Act.put, List.setIfInBounds_toArray, List.set_cons_zero, List.set_cons_succ]
        refine wpAnyH_ready (rs := [11]) (by kernel_rfl) (by simp) ?_
        refine AllReadyH.cons rfl (fun K hK0 => ?_) AllReadyH.nil
        have hK := hK0.out
        clear hK0
        rw [if_pos (by kernel_rfl)]
        refine wp_go_call 38 #[v3, v4] (fun _ => by kernel_rfl) ((Add_any _ _ (x * y) (x * z) 16 _ (by exact i3_4) (by exact i4_4) (by decide) (by exact (HF.out.1.mul HF.out.2.1)) (by exact (HF.out.1.mul HF.out.2.2))).mono ?k48)
        rintro e w5 ⟨v5, rfl, i5_5, hb5⟩
        have B5 := B4.step hb5 rfl
        have bl5 := begun_then bl4 hb5 rfl rfl rfl rfl
        have i2_5 := i2_4.step hb5 rfl
        clear B4 bl4 hb5 i2_4 i3_4 i4_4
        refine ⟨v5, rfl, hK _ _ (B5.cells) (fun hH5 => ?_)⟩
        clear hK K hH4
        change wpAnyH _ _ _ _ _ _ _ (Act.put _ (some 89) _) _
        simp only [Act.put, List.setIfInBounds_toArray, List.set_cons_zero, List.set_cons_succ]
        refine wpAnyH_ready (rs := [12]) (by kernel_rfl) (by simp) ?_
        refine AllReadyH.cons rfl (fun K hK0 => ?_) AllReadyH.nil
        have hK := hK0.out
        clear hK0
        rw [if_pos (by kernel_rfl)]
        refine wp_go_call 65 #[v2, v5] (fun _ => by kernel_rfl) ((same_true _ _ (x * (y + z)) ((x * y) + (x * z)) 17 _ (by exact i2_5) (by exact i5_5) (by decide) (by exact (HF.out.1.mul (HF.out.2.1.add HF.out.2.2))) (by exact ((HF.out.1.mul HF.out.2.1).add (HF.out.1.mul HF.out.2.2))) (by exact Int.mul_add x y z)).mono ?k49)
        rintro e w6 ⟨rfl, hb6⟩
        have B6 := B5.step hb6 rfl
        have bl6 := begun_then bl5 hb6 rfl rfl rfl rfl
        clear B5 bl5 hb6 i2_5 i5_5
        refine ⟨(.bool true), rfl, hK _ _ (B6.cells) (fun hH6 => ?_)⟩
        clear hK K hH5
        change wpAnyH _ _ _ _ _ _ _ (Act.put _ (some 90) _) _
        simp only [Act.put, List.setIfInBounds_toArray, List.set_cons_zero, List.set_cons_succ]
        refine wpAnyH_take (i := 13) (v := (.bool false)) rfl (by kernel_rfl) (by kernel_rfl) (by kernel_rfl) (fun _ _ _ h => h) (Or.inl ⟨by kernel_rfl, fun _ _ => by kernel_rfl⟩) hH6 ?_
        change wpAnyH _ _ _ _ _ _ _ (Act.put _ (some 91) _) _
        simp only [Act.put, List.setIfInBounds_toArray, List.set_cons_zero, List.set_cons_succ]
        refine wpAnyH_take (i := 14) (v := (.bool false)) rfl (by kernel_rfl) (by kernel_rfl) (by kernel_rfl) (fun _ _ _ h => h) (Or.inl ⟨by kernel_rfl, fun _ _ => by kernel_rfl⟩) hH6 ?_
        change wpAnyH _ _ _ _ _ _ _ (Act.put _ (some 92) _) _
        simp only [Act.put, List.setIfInBounds_toArray, List.set_cons_zero, List.set_cons_succ]
        refine wpAnyH_take (i := 15) (v := (.agg #[X1, X2])) rfl (by kernel_rfl) (by kernel_rfl) (by kernel_rfl) (fun _ _ _ h => h) (Or.inl ⟨by kernel_rfl, ?y50⟩) hH6 ?r50
        case y50 => (intro w0 hS0; (try dsimp only at hS0); go_simp)
        change wpAnyH _ _ _ _ _ _ _ (Act.put _ (some 93) _) _
        simp only [Act.put, List.setIfInBounds_toArray, List.set_cons_zero, List.set_cons_succ]
        refine wpAnyH_take (i := 16) (v := (.agg #[Y1, Y2])) rfl (by kernel_rfl) (by kernel_rfl) (by kernel_rfl) (fun _ _ _ h => h) (Or.inl ⟨by kernel_rfl, ?y51⟩) hH6 ?r51
        case y51 => (intro w0 hS0; (try dsimp only at hS0); go_simp)
        change wpAnyH _ _ _ _ _ _ _ (Act.put _ (some 94) _) _
        simp only [Act.put, List.setIfInBounds_toArray, List.set_cons_zero, List.set_cons_succ]
        refine wpAnyH_take (i := 18) (v := (.agg #[Y1, Y2])) rfl (by kernel_rfl) (by kernel_rfl) (by kernel_rfl) (fun _ _ _ h => h) (Or.inl ⟨by kernel_rfl, ?y52⟩) hH6 ?r52
        case y52 => (intro w0 hS0; (try dsimp only at hS0); go_simp)
        change wpAnyH _ _ _ _ _ _ _ (Act.put _ (some 96) _) _
        simp only [Act.put, List.setIfInBounds_toArray, List.set_cons_zero, List.set_cons_succ]
        refine wpAnyH_take (i := 20) (v := (.agg #[X1, X2])) rfl (by kernel_rfl) (by kernel_rfl) (by kernel_rfl) (fun _ _ _ h => h) (Or.inl ⟨by kernel_rfl, ?y53⟩) hH6 ?r53
        case y53 => (intro w0 hS0; (try dsimp only at hS0); go_simp)
        change wpAnyH _ _ _ _ _ _ _ (Act.put _ (some 98) _) _
        simp only [Act.put, List.setIfInBounds_toArray, List.set_cons_zero, List.set_cons_succ]
        refine wpAnyH_ready (rs := [17]) (by kernel_rfl) (by simp) ?_
        refine AllReadyH.cons rfl (fun K hK0 => ?_) AllReadyH.nil
        have hK := hK0.out
        clear hK0
        rw [if_pos (by kernel_rfl)]
        refine wp_go_call 38 #[(.agg #[X1, X2]), (.agg #[Y1, Y2])] (fun _ => by kernel_rfl) ((Add_any _ _ x y 8 _ (by exact B6.ix) (by exact B6.iy) (by decide) (by exact HF.out.1) (by exact HF.out.2.1)).mono ?k54)
        rintro e w7 ⟨v7, rfl, i7_7, hb7⟩
        have B7 := B6.step hb7 rfl
        have bl7 := begun_then bl6 hb7 rfl rfl rfl rfl
        clear B6 bl6 hb7
        refine ⟨v7, rfl, hK _ _ (B7.cells) (fun hH7 => ?_)⟩
        clear hK K hH6
        change wpAnyH _ _ _ _ _ _ _ (Act.put _ (some 95) _) _
        simp only [Act.put, List.setIfInBounds_toArray, List.set_cons_zero, List.set_cons_succ]
        refine wpAnyH_ready (rs := [19]) (by kernel_rfl) (by simp) ?_
        refine AllReadyH.cons rfl (fun K hK0 => ?_) AllReadyH.nil
        have hK := hK0.out
        clear hK0
        rw [if_pos (by kernel_rfl)]
        refine wp_go_call 40 #[v7, (.agg #[Y1, Y2])] (fun _ => by kernel_rfl) ((Sub_any _ _ (x + y) y 9 _ (by exact i7_7) (by exact B7.iy) (by decide) (by exact (HF.out.1.add HF.out.2.1)) (by exact (HF.out.2.1.up (by decide : 8 ≤ 9)))).mono ?k55)
        rintro e w8 ⟨v8, rfl, i8_8, hb8⟩
        have B8 := B7.step hb8 rfl
        have bl8 := begun_then bl7 hb8 rfl rfl rfl rfl
        clear B7 bl7 hb8 i7_7
        refine ⟨v8, rfl, hK _ _ (B8.cells) (fun hH8 => ?_)⟩
        clear hK K hH7
        change wpAnyH _ _ _ _ _ _ _ (Act.put _ (some 97) _) _
        simp only [Act.put, List.setIfInBounds_toArray, List.set_cons_zero, List.set_cons_succ]
        refine wpAnyH_ready (rs := [21]) (by kernel_rfl) (by simp) ?_
        refine AllReadyH.cons rfl (fun K hK0 => ?_) AllReadyH.nil
        have hK := hK0.out
        clear hK0
        rw [if_pos (by kernel_rfl)]
        refine wp_go_call 65 #[v8, (.agg #[X1, X2])] (fun _ => by kernel_rfl) ((same_true _ _ ((x + y) - y) x 10 _ (by exact i8_8) (by exact B8.ix) (by decide) (by exact ((HF.out.1.add HF.out.2.1).sub (HF.out.2.1.up (by decide : 8 ≤ 9)))) (by exact (HF.out.1.up (by decide : 8 ≤ 10))) (by exact Int.add_sub_cancel x y)).mono ?k56)
        rintro e w9 ⟨rfl, hb9⟩
        have B9 := B8.step hb9 rfl
        have bl9 := begun_then bl8 hb9 rfl rfl rfl rfl
        clear B8 bl8 hb9 i8_8
        refine ⟨(.bool true), rfl, hK _ _ (B9.cells) (fun hH9 => ?_)⟩
        clear hK K hH8
        change wpAnyH _ _ _ _ _ _ _ (Act.put _ (some 99) _) _
        simp only [Act.put, List.setIfInBounds_toArray, List.set_cons_zero, List.set_cons_succ]
        refine wpAnyH_take (i := 22) (v := (.bool false)) rfl (by kernel_rfl) (by kernel_rfl) (by kernel_rfl) (fun _ _ _ h => h) (Or.inl ⟨by kernel_rfl, fun _ _ => by kernel_rfl⟩) hH9 ?_
        change wpAnyH _ _ _ _ _ _ _ (Act.put _ (some 100) _) _
        simp only [Act.put, List.setIfInBounds_toArray, List.set_cons_zero, List.set_cons_succ]
        refine wpAnyH_take (i := 23) (v := (.bool false)) rfl (by kernel_rfl) (by kernel_rfl) (by kernel_rfl) (fun _ _ _ h => h) (Or.inl ⟨by kernel_rfl, fun _ _ => by kernel_rfl⟩) hH9 ?_
        change wpAnyH _ _ _ _ _ _ _ (Act.put _ (some 101) _) _
        simp only [Act.put, List.setIfInBounds_toArray, List.set_cons_zero, List.set_cons_succ]
        refine wpAnyH_take (i := 24) (v := (.bool false)) rfl (by kernel_rfl) (by kernel_rfl) (by kernel_rfl) (fun _ _ _ h => h) (Or.inl ⟨by kernel_rfl, fun _ _ => by kernel_rfl⟩) hH9 ?_
        change wpAnyH _ _ _ _ _ _ _ (Act.put _ (some 102) _) _
        simp only [Act.put, List.setIfInBounds_toArray, List.set_cons_zero, List.set_cons_succ]
        refine wpAnyH_take (i := 25) (v := (.agg #[X1, X2])) rfl (by kernel_rfl) (by kernel_rfl) (by kernel_rfl) (fun _ _ _ h => h) (Or.inl ⟨by kernel_rfl, ?y57⟩) hH9 ?r57
        case y57 => (intro w0 hS0; (try dsimp only at hS0); go_simp)
        change wpAnyH _ _ _ _ _ _ _ (Act.put _ (some 103) _) _
        simp only [Act.put, List.setIfInBounds_toArray, List.set_cons_zero, List.set_cons_succ]
        refine wpAnyH_take (i := 26) (v := (.agg #[X1, X2])) rfl (by kernel_rfl) (by kernel_rfl) (by kernel_rfl) (fun _ _ _ h => h) (Or.inl ⟨by kernel_rfl, ?y58⟩) hH9 ?r58
        case y58 => (intro w0 hS0; (try dsimp only at hS0); go_simp)
        change wpAnyH _ _ _ _ _ _ _ (Act.put _ (some 104) _) _
        simp only [Act.put, List.setIfInBounds_toArray, List.set_cons_zero, List.set_cons_succ]
        refine wpAnyH_take (i := 28) (v := (.agg #[.bool false, .slice none 0 0])) rfl (by kernel_rfl) (by kernel_rfl) (by kernel_rfl) (fun _ _ _ h => h) (Or.inl ⟨by kernel_rfl, fun _ _ => by kernel_rfl⟩) hH9 ?_
        change wpAnyH _ _ _ _ _ _ _ (Act.put _ (some 106) _) _
        simp only [Act.put, List.setIfInBounds_toArray, List.set_cons_zero, List.set_cons_succ]
        refine wpAnyH_ready (rs := [27]) (by kernel_rfl) (by simp) ?_
        refine AllReadyH.cons rfl (fun K hK0 => ?_) AllReadyH.nil
        have hK := hK0.out
        clear hK0
        rw [if_pos (by kernel_rfl)]
        refine wp_go_call 40 #[(.agg #[X1, X2]), (.agg #[X1, X2])] (fun _ => by kernel_rfl) ((Sub_any _ _ x x 8 _ (by exact B9.ix) (by exact B9.ix) (by decide) (by exact HF.out.1) (by exact HF.out.1)).mono ?k59)
        rintro e w10 ⟨v10, rfl, i10_10, hb10⟩
        have B10 := B9.step hb10 rfl
        have bl10 := begun_then bl9 hb10 rfl rfl rfl rfl
        clear B9 bl9 hb10
        refine ⟨v10, rfl, hK _ _ (B10.cells) (fun hH10 => ?_)⟩
        clear hK K hH9
        change wpAnyH _ _ _ _ _ _ _ (Act.put _ (some 105) _) _
        simp only [Act.put, List.setIfInBounds_toArray, List.set_cons_zero, List.set_cons_succ]
        refine wpAnyH_ready (rs := [29]) (by kernel_rfl) (by simp) ?_
        refine AllReadyH.cons rfl (fun K hK0 => ?_) AllReadyH.nil
        have hK := hK0.out
        clear hK0
        rw [if_pos (by kernel_rfl)]
        refine wp_go_call 65 #[v10, (.agg #[.bool false, .slice none 0 0])] (fun _ => by kernel_rfl) ((same_true _ _ (x - x) (0 : Int) 9 _ (by exact i10_10) (by exact int_zero _) (by decide) (by exact (HF.out.1.sub HF.out.1)) (by exact (show Fits 0 9 from fits_zero _)) (by exact Int.sub_self x)).mono ?k60)
        rintro e w11 ⟨rfl, hb11⟩
        have B11 := B10.step hb11 rfl
        have bl11 := begun_then bl10 hb11 rfl rfl rfl rfl
        clear B10 bl10 hb11 i10_10
        refine ⟨(.bool true), rfl, hK _ _ (B11.cells) (fun hH11 => ?_)⟩
        clear hK K hH10
        change wpAnyH _ _ _ _ _ _ _ (Act.put _ (some 107) _) _
        simp only [Act.put, List.setIfInBounds_toArray, List.set_cons_zero, List.set_cons_succ]
        refine wpAnyH_take (i := 30) (v := (.bool false)) rfl (by kernel_rfl) (by kernel_rfl) (by kernel_rfl) (fun _ _ _ h => h) (Or.inl ⟨by kernel_rfl, fun _ _ => by kernel_rfl⟩) hH11 ?_
        change wpAnyH _ _ _ _ _ _ _ (Act.put _ (some 108) _) _
        simp only [Act.put, List.setIfInBounds_toArray, List.set_cons_zero, List.set_cons_succ]
        refine wpAnyH_take (i := 31) (v := (.bool false)) rfl (by kernel_rfl) (by kernel_rfl) (by kernel_rfl) (fun _ _ _ h => h) (Or.inl ⟨by kernel_rfl, fun _ _ => by kernel_rfl⟩) hH11 ?_
        change wpAnyH _ _ _ _ _ _ _ (Act.put _ (some 109) _) _
        simp only [Act.put, List.setIfInBounds_toArray, List.set_cons_zero, List.set_cons_succ]
        refine wpAnyH_done (by kernel_rfl) ?_ _
        go_wp2_with fail
        go_meet
        exact ⟨rfl, B11, bl11⟩
      case rest =>
        clear Bs bls
        obtain ⟨rfl, Bs, bls⟩ := hcut
        go_upto_region 9 with fail
        go_cut [166] (fun s wx => s = .bool false ∧ XYZ wx r8 r9 r10 X1 X2 Y1 Y2 Z1 Z2 x y z ∧ Below w.heap.size w wx)
        case first =>
          obtain ⟨p, q, r, s, N0⟩ := nums_of x y z
          rcases N0.cases with ⟨hs, hp⟩ | ⟨hs, hp, hq⟩ | ⟨hs, hp, hq, hr⟩ | ⟨hs, hp⟩ | ⟨hs, hp, hq⟩ | ⟨hs, hp, hq, hr⟩
          · as_aux_lemma =>
            have HN := Lib.hid (N0.pos hs)
            have hw2 := N0.wrap3
            clear N0
            have ds : decide ((0 : Int) < s) = true := by exact decide_eq_true hs
            have dp : decide (p ≤ (0 : Int)) = false := by exact decide_eq_false (by omega)
            have hne : (p != p) = false := bne_self_eq_false p
            refine wp_region_held_drew (S := (fun w' => w'.cell? ⟨r8, 0, none⟩ = some X1 ∧ w'.cell? ⟨r8, 1, none⟩ = some X2 ∧ w'.cell? ⟨r9, 0, none⟩ = some Y1 ∧ w'.cell? ⟨r9, 1, none⟩ = some Y2 ∧ w'.cell? ⟨r10, 0, none⟩ = some Z1 ∧ w'.cell? ⟨r10, 1, none⟩ = some Z2)) (by kernel_rfl) (Bs.cells) (fun hH0 => ?_)
            refine wpAnyH_take (i := 0) (v := (.agg #[X1, X2])) rfl (by kernel_rfl) (by kernel_rfl) (by kernel_rfl) (fun _ _ _ h => h) (Or.inl ⟨by kernel_rfl, ?y61⟩) hH0 ?r61
            case y61 => (intro w0 hS0; (try dsimp only at hS0); go_simp)
            change wpAnyH _ _ _ _ _ _ _ (Act.put _ (some 110) _) _
            simp only [Act.put, List.setIfInBounds_toArray, List.set_cons_zero, List.set_cons_succ]
            refine wpAnyH_take (i := 1) (v := (.agg #[Y1, Y2])) rfl (by kernel_rfl) (by kernel_rfl) (by kernel_rfl) (fun _ _ _ h => h) (Or.inl ⟨by kernel_rfl, ?y62⟩) hH0 ?r62
            case y62 => (intro w0 hS0; (try dsimp only at hS0); go_simp)
            change wpAnyH _ _ _ _ _ _ _ (Act.put _ (some 111) _) _
            simp only [Act.put, List.setIfInBounds_toArray, List.set_cons_zero, List.set_cons_succ]
            refine wpAnyH_take (i := 3) (v := (.agg #[Y1, Y2])) rfl (by kernel_rfl) (by kernel_rfl) (by kernel_rfl) (fun _ _ _ h => h) (Or.inl ⟨by kernel_rfl, ?y63⟩) hH0 ?r63
            case y63 => (intro w0 hS0; (try dsimp only at hS0); go_simp)
            change wpAnyH _ _ _ _ _ _ _ (Act.put _ (some 113) _) _
            simp only [Act.put, List.setIfInBounds_toArray, List.set_cons_zero, List.set_cons_succ]
            refine wpAnyH_take (i := 4) (v := (.agg #[X1, X2])) rfl (by kernel_rfl) (by kernel_rfl) (by kernel_rfl) (fun _ _ _ h => h) (Or.inl ⟨by kernel_rfl, ?y64⟩) hH0 ?r64
            case y64 => (intro w0 hS0; (try dsimp only at hS0); go_simp)
            change wpAnyH _ _ _ _ _ _ _ (Act.put _ (some 114) _) _
            simp only [Act.put, List.setIfInBounds_toArray, List.set_cons_zero, List.set_cons_succ]
            refine wpAnyH_ready (rs := [2]) (by kernel_rfl) (by simp) ?_
            refine AllReadyH.cons rfl (fun K hK0 => ?_) AllReadyH.nil
            have hK := hK0.out
            clear hK0
            rw [if_pos (by kernel_rfl)]
            refine wp_go_call 32 #[(.agg #[X1, X2]), (.agg #[Y1, Y2])] (fun _ => by kernel_rfl) ((cmp_is _ _ x y p 8 _ (by exact Bs.ix) (by exact Bs.iy) (by decide) (by exact HF.out.1) (by exact HF.out.2.1) (by exact HN.out.1)).mono ?k65)
            rintro e w1 ⟨rfl, hb1⟩
            have B1 := Bs.step hb1 rfl
            have bl1 := begun_then bls hb1 rfl rfl rfl rfl
            clear Bs bls hb1
            refine ⟨(.int .i64 p), rfl, hK _ _ (B1.cells) (fun hH1 => ?_)⟩
            clear hK K hH0
            change wpAnyH _ _ _ _ _ _ _ (Act.put _ (some 112) _) _
            simp only [Act.put, List.setIfInBounds_toArray, List.set_cons_zero, List.set_cons_succ]
            refine wpAnyH_ready (rs := [5]) (by kernel_rfl) (by simp) ?_
            refine AllReadyH.cons rfl (fun K hK0 => ?_) AllReadyH.nil
            have hK := hK0.out
            clear hK0
            rw [if_pos (by kernel_rfl)]
            refine wp_go_call 32 #[(.agg #[Y1, Y2]), (.agg #[X1, X2])] (fun _ => by kernel_rfl) ((cmp_is _ _ y x (-p) 8 _ (by exact B1.iy) (by exact B1.ix) (by decide) (by exact HF.out.2.1) (by exact HF.out.1) (by exact HN.out.2.1)).mono ?k66)
            rintro e w2 ⟨rfl, hb2⟩
            have B2 := B1.step hb2 rfl
            have bl2 := begun_then bl1 hb2 rfl rfl rfl rfl
            clear B1 bl1 hb2
            refine ⟨(.int .i64 (-p)), rfl, hK _ _ (B2.cells) (fun hH2 => ?_)⟩
            clear hK K hH1
            change wpAnyH _ _ _ _ _ _ _ (Act.put _ (some 115) _) _
            simp only [Act.put, List.setIfInBounds_toArray, List.set_cons_zero, List.set_cons_succ]
            refine wpAnyH_take (i := 6) (v := (.int .i64 p)) rfl (by kernel_rfl) (by kernel_rfl) (by kernel_rfl) (fun _ _ _ h => h) (Or.inl ⟨by kernel_rfl, fun w0 _ => Eq.trans (b := Result.ok (Next.value (.int .i64 (IntKind.i64.wrap (0 - -p)))) w0) (by kernel_rfl) (by rw [hw2])⟩) hH2 ?_
            change wpAnyH _ _ _ _ _ _ _ (Act.put _ (some 116) _) _
            simp only [Act.put, List.setIfInBounds_toArray, List.set_cons_zero, List.set_cons_succ]
            refine wpAnyH_take (i := 7) (v := (.bool false)) rfl (by kernel_rfl) (by kernel_rfl) (by kernel_rfl) (fun _ _ _ h => h) (Or.inl ⟨by kernel_rfl, fun w0 _ => Eq.trans (b := Result.ok (Next.value (.bool (p != p))) w0) (by kernel_rfl) (by rw [hne])⟩) hH2 ?_
            change wpAnyH _ _ _ _ _ _ _ (Act.put _ (some 117) _) _
            simp only [Act.put, List.setIfInBounds_toArray, List.set_cons_zero, List.set_cons_succ]
            refine wpAnyH_take (i := 8) (v := (.bool false)) rfl (by kernel_rfl) (by kernel_rfl) (by kernel_rfl) (fun _ _ _ h => h) (Or.inl ⟨by kernel_rfl, fun _ _ => by kernel_rfl⟩) hH2 ?_
            change wpAnyH _ _ _ _ _ _ _ (Act.put _ (some 118) _) _
            simp only [Act.put, List.setIfInBounds_toArray, List.set_cons_zero, List.set_cons_succ]
            refine wpAnyH_take (i := 9) (v := (.agg #[X1, X2])) rfl (by kernel_rfl) (by kernel_rfl) (by kernel_rfl) (fun _ _ _ h => h) (Or.inl ⟨by kernel_rfl, ?y67⟩) hH2 ?r67
            case y67 => (intro w0 hS0; (try dsimp only at hS0); go_simp)
            change wpAnyH _ _ _ _ _ _ _ (Act.put _ (some 119) _) _
            simp only [Act.put, List.setIfInBounds_toArray, List.set_cons_zero, List.set_cons_succ]
            refine wpAnyH_take (i := 10) (v := (.agg #[Y1, Y2])) rfl (by kernel_rfl) (by kernel_rfl) (by kernel_rfl) (fun _ _ _ h => h) (Or.inl ⟨by kernel_rfl, ?y68⟩) hH2 ?r68
            case y68 => (intro w0 hS0; (try dsimp only at hS0); go_simp)
            change wpAnyH _ _ _ _ _ _ _ (Act.put _ (some 120) _) _
            simp only [Act.put, List.setIfInBounds_toArray, List.set_cons_zero, List.set_cons_succ]
            refine wpAnyH_ready (rs := [11]) (by kernel_rfl) (by simp) ?_
            refine AllReadyH.cons rfl (fun K hK0 => ?_) AllReadyH.nil
            have hK := hK0.out
            clear hK0
            rw [if_pos (by kernel_rfl)]
            refine wp_go_call 32 #[(.agg #[X1, X2]), (.agg #[Y1, Y2])] (fun _ => by kernel_rfl) ((cmp_is _ _ x y p 8 _ (by exact B2.ix) (by exact B2.iy) (by decide) (by exact HF.out.1) (by exact HF.out.2.1) (by exact HN.out.1)).mono ?k69)
            rintro e w3 ⟨rfl, hb3⟩
            have B3 := B2.step hb3 rfl
            have bl3 := begun_then bl2 hb3 rfl rfl rfl rfl
            clear B2 bl2 hb3
            refine ⟨(.int .i64 p), rfl, hK _ _ (B3.cells) (fun hH3 => ?_)⟩
            clear hK K hH2
            change wpAnyH _ _ _ _ _ _ _ (Act.put _ (some 121) _) _
            simp only [Act.put, List.setIfInBounds_toArray, List.set_cons_zero, List.set_cons_succ]
            refine wpAnyH_take (i := 12) (v := (.bool false)) rfl (by kernel_rfl) (by kernel_rfl) (by kernel_rfl) (fun _ _ _ h => h) (Or.inl ⟨by kernel_rfl, fun w0 _ => Eq.trans (b := Result.ok (Next.value (.bool (decide (p ≤ (0 : Int))))) w0) (by kernel_rfl) (by rw [dp])⟩) hH3 ?_
            change wpAnyH _ _ _ _ _ _ _ (Act.put _ (some 122) _) _
            simp only [Act.put, List.setIfInBounds_toArray, List.set_cons_zero, List.set_cons_succ]
            refine wpAnyH_take (i := 13) (v := (.bool false)) rfl (by kernel_rfl) (by kernel_rfl) (by kernel_rfl) (fun _ _ _ h => h) (Or.inl ⟨by kernel_rfl, fun _ _ => by kernel_rfl⟩) hH3 ?_
            change wpAnyH _ _ _ _ _ _ _ (Act.put _ (some 123) _) _
            simp only [Act.put, List.setIfInBounds_toArray, List.set_cons_zero, List.set_cons_succ]
            refine wpAnyH_take (i := 14) (v := undef) rfl (by kernel_rfl) (by kernel_rfl) (by kernel_rfl) (fun _ _ _ h => h) (Or.inr ⟨by kernel_rfl, rfl⟩) hH3 ?_
            change wpAnyH _ _ _ _ _ _ _ (Act.put _ (some 124) _) _
            simp only [Act.put, List.setIfInBounds_toArray, List.set_cons_zero, List.set_cons_succ]
            refine wpAnyH_take (i := 15) (v := undef) rfl (by kernel_rfl) (by kernel_rfl) (by kernel_rfl) (fun _ _ _ h => h) (Or.inr ⟨by kernel_rfl, rfl⟩) hH3 ?_
            change wpAnyH _ _ _ _ _ _ _ (Act.put _ (some 125) _) _
            simp only [Act.put, List.setIfInBounds_toArray, List.set_cons_zero, List.set_cons_succ]
            refine wpAnyH_take (i := 16) (v := undef) rfl (by kernel_rfl) (by kernel_rfl) (by kernel_rfl) (fun _ _ _ h => h) (Or.inr ⟨by kernel_rfl, rfl⟩) hH3 ?_
            change wpAnyH _ _ _ _ _ _ _ (Act.put _ (some 126) _) _
            simp only [Act.put, List.setIfInBounds_toArray, List.set_cons_zero, List.set_cons_succ]
            refine wpAnyH_take (i := 17) (v := undef) rfl (by kernel_rfl) (by kernel_rfl) (by kernel_rfl) (fun _ _ _ h => h) (Or.inr ⟨by kernel_rfl, rfl⟩) hH3 ?_
            change wpAnyH _ _ _ _ _ _ _ (Act.put _ (some 127) _) _
            simp only [Act.put, List.setIfInBounds_toArray, List.set_cons_zero, List.set_cons_succ]
            refine wpAnyH_take (i := 18) (v := (Value.bool false)) rfl (by kernel_rfl) (by kernel_rfl) (by kernel_rfl) (fun _ _ _ h => h) (Or.inl ⟨by kernel_rfl, fun _ _ => by kernel_rfl⟩) hH3 ?_
            change wpAnyH _ _ _ _ _ _ _ (Act.put _ (some 128) _) _
            simp only [Act.put, List.setIfInBounds_toArray, List.set_cons_zero, List.set_cons_succ]
            refine wpAnyH_take (i := 19) (v := (Value.bool false)) rfl (by kernel_rfl) (by kernel_rfl) (by kernel_rfl) (fun _ _ _ h => h) (Or.inl ⟨by kernel_rfl, fun _ _ => by kernel_rfl⟩) hH3 ?_
            change wpAnyH _ _ _ _ _ _ _ (Act.put _ (some 129) _) _
            simp only [Act.put, List.setIfInBounds_toArray, List.set_cons_zero, List.set_cons_succ]
            refine wpAnyH_take (i := 20) (v := undef) rfl (by kernel_rfl) (by kernel_rfl) (by kernel_rfl) (fun _ _ _ h => h) (Or.inr ⟨by kernel_rfl, rfl⟩) hH3 ?_
            change wpAnyH _ _ _ _ _ _ _ (Act.put _ (some 130) _) _
            simp only [Act.put, List.setIfInBounds_toArray, List.set_cons_zero, List.set_cons_succ]
            refine wpAnyH_take (i := 21) (v := undef) rfl (by kernel_rfl) (by kernel_rfl) (by kernel_rfl) (fun _ _ _ h => h) (Or.inr ⟨by kernel_rfl, rfl⟩) hH3 ?_
            change wpAnyH _ _ _ _ _ _ _ (Act.put _ (some 131) _) _
            simp only [Act.put, List.setIfInBounds_toArray, List.set_cons_zero, List.set_cons_succ]
            refine wpAnyH_take (i := 22) (v := undef) rfl (by kernel_rfl) (by kernel_rfl) (by kernel_rfl) (fun _ _ _ h => h) (Or.inr ⟨by kernel_rfl, rfl⟩) hH3 ?_
            change wpAnyH _ _ _ _ _ _ _ (Act.put _ (some 132) _) _
            simp only [Act.put, List.setIfInBounds_toArray, List.set_cons_zero, List.set_cons_succ]
            refine wpAnyH_take (i := 23) (v := undef) rfl (by kernel_rfl) (by kernel_rfl) (by kernel_rfl) (fun _ _ _ h => h) (Or.inr ⟨by kernel_rfl, rfl⟩) hH3 ?_
            change wpAnyH _ _ _ _ _ _ _ (Act.put _ (some 133) _) _
            simp only [Act.put, List.setIfInBounds_toArray, List.set_cons_zero, List.set_cons_succ]
            refine wpAnyH_take (i := 24) (v := (Value.bool false)) rfl (by kernel_rfl) (by kernel_rfl) (by kernel_rfl) (fun _ _ _ h => h) (Or.inl ⟨by kernel_rfl, fun _ _ => by kernel_rfl⟩) hH3 ?_
            change wpAnyH _ _ _ _ _ _ _ (Act.put _ (some 134) _) _
            simp only [Act.put, List.setIfInBounds_toArray, List.set_cons_zero, List.set_cons_succ]
            refine wpAnyH_take (i := 25) (v := (Value.bool false)) rfl (by kernel_rfl) (by kernel_rfl) (by kernel_rfl) (fun _ _ _ h => h) (Or.inl ⟨by kernel_rfl, fun _ _ => by kernel_rfl⟩) hH3 ?_
            change wpAnyH _ _ _ _ _ _ _ (Act.put _ (some 135) _) _
            simp only [Act.put, List.setIfInBounds_toArray, List.set_cons_zero, List.set_cons_succ]
            refine wpAnyH_take (i := 26) (v := (Value.bool false)) rfl (by kernel_rfl) (by kernel_rfl) (by kernel_rfl) (fun _ _ _ h => h) (Or.inl ⟨by kernel_rfl, fun _ _ => by kernel_rfl⟩) hH3 ?_
            change wpAnyH _ _ _ _ _ _ _ (Act.put _ (some 136) _) _
            simp only [Act.put, List.setIfInBounds_toArray, List.set_cons_zero, List.set_cons_succ]
            refine wpAnyH_take (i := 27) (v := (.agg #[X1, X2])) rfl (by kernel_rfl) (by kernel_rfl) (by kernel_rfl) (fun _ _ _ h => h) (Or.inl ⟨by kernel_rfl, ?y70⟩) hH3 ?r70
            case y70 => (intro w0 hS0; (try dsimp only at hS0); go_simp)
            change wpAnyH _ _ _ _ _ _ _ (Act.put _ (some 137) _) _
            simp only [Act.put, List.setIfInBounds_toArray, List.set_cons_zero, List.set_cons_succ]
            refine wpAnyH_take (i := 28) (v := (.agg #[Z1, Z2])) rfl (by kernel_rfl) (by kernel_rfl) (by kernel_rfl) (fun _ _ _ h => h) (Or.inl ⟨by kernel_rfl, ?y71⟩) hH3 ?r71
            case y71 => (intro w0 hS0; (try dsimp only at hS0); go_simp)
            change wpAnyH _ _ _ _ _ _ _ (Act.put _ (some 138) _) _
            simp only [Act.put, List.setIfInBounds_toArray, List.set_cons_zero, List.set_cons_succ]
            refine wpAnyH_take (i := 30) (v := (.agg #[Y1, Y2])) rfl (by kernel_rfl) (by kernel_rfl) (by kernel_rfl) (fun _ _ _ h => h) (Or.inl ⟨by kernel_rfl, ?y72⟩) hH3 ?r72
            case y72 => (intro w0 hS0; (try dsimp only at hS0); go_simp)
            change wpAnyH _ _ _ _ _ _ _ (Act.put _ (some 140) _) _
            simp only [Act.put, List.setIfInBounds_toArray, List.set_cons_zero, List.set_cons_succ]
            refine wpAnyH_take (i := 31) (v := (.agg #[Z1, Z2])) rfl (by kernel_rfl) (by kernel_rfl) (by kernel_rfl) (fun _ _ _ h => h) (Or.inl ⟨by kernel_rfl, ?y73⟩) hH3 ?r73
            case y73 => (intro w0 hS0; (try dsimp only at hS0); go_simp)
            change wpAnyH _ _ _ _ _ _ _ (Act.put _ (some 141) _) _
            simp only [Act.put, List.setIfInBounds_toArray, List.set_cons_zero, List.set_cons_succ]
            refine wpAnyH_take (i := 34) (v := (.agg #[X1, X2])) rfl (by kernel_rfl) (by kernel_rfl) (by kernel_rfl) (fun _ _ _ h => h) (Or.inl ⟨by kernel_rfl, ?y74⟩) hH3 ?r74
            case y74 => (intro w0 hS0; (try dsimp only at hS0); go_simp)
            change wpAnyH _ _ _ _ _ _ _ (Act.put _ (some 144) _) _
            simp only [Act.put, List.setIfInBounds_toArray, List.set_cons_zero, List.set_cons_succ]
            refine wpAnyH_take (i := 35) (v := (.agg #[Y1, Y2])) rfl (by kernel_rfl) (by kernel_rfl) (by kernel_rfl) (fun _ _ _ h => h) (Or.inl ⟨by kernel_rfl, ?y75⟩) hH3 ?r75
            case y75 => (intro w0 hS0; (try dsimp only at hS0); go_simp)
            change wpAnyH _ _ _ _ _ _ _ (Act.put _ (some 145) _) _
            simp only [Act.put, List.setIfInBounds_toArray, List.set_cons_zero, List.set_cons_succ]
            refine wpAnyH_ready (rs := [29]) (by kernel_rfl) (by simp) ?_
            refine AllReadyH.cons rfl (fun K hK0 => ?_) AllReadyH.nil
            have hK := hK0.out
            clear hK0
            rw [if_pos (by kernel_rfl)]
            refine wp_go_call 38 #[(.agg #[X1, X2]), (.agg #[Z1, Z2])] (fun _ => by kernel_rfl) ((Add_any _ _ x z 8 _ (by exact B3.ix) (by exact B3.iz) (by decide) (by exact HF.out.1) (by exact HF.out.2.2)).mono ?k76)
            rintro e w4 ⟨v4, rfl, i4_4, hb4⟩
            have B4 := B3.step hb4 rfl
            have bl4 := begun_then bl3 hb4 rfl rfl rfl rfl
            clear B3 bl3 hb4
            refine ⟨v4, rfl, hK _ _ (B4.cells) (fun hH4 => ?_)⟩
            clear hK K hH3
            change wpAnyH _ _ _ _ _ _ _ (Act.put _ (some 139) _) _
            simp only [Act.put, List.setIfInBounds_toArray, List.set_cons_zero, List.set_cons_succ]
            refine wpAnyH_ready (rs := [32]) (by kernel_rfl) (by simp) ?_
            refine AllReadyH.cons rfl (fun K hK0 => ?_) AllReadyH.nil
            have hK := hK0.out
            clear hK0
            rw [if_pos (by kernel_rfl)]
            refine wp_go_call 38 #[(.agg #[Y1, Y2]), (.agg #[Z1, Z2])] (fun _ => by kernel_rfl) ((Add_any _ _ y z 8 _ (by exact B4.iy) (by exact B4.iz) (by decide) (by exact HF.out.2.1) (by exact HF.out.2.2)).mono ?k77)
            rintro e w5 ⟨v5, rfl, i5_5, hb5⟩
            have B5 := B4.step hb5 rfl
            have bl5 := begun_then bl4 hb5 rfl rfl rfl rfl
            have i4_5 := i4_4.step hb5 rfl
            clear B4 bl4 hb5 i4_4
            refine ⟨v5, rfl, hK _ _ (B5.cells) (fun hH5 => ?_)⟩
            clear hK K hH4
            change wpAnyH _ _ _ _ _ _ _ (Act.put _ (some 142) _) _
            simp only [Act.put, List.setIfInBounds_toArray, List.set_cons_zero, List.set_cons_succ]
            refine wpAnyH_ready (rs := [33]) (by kernel_rfl) (by simp) ?_
            refine AllReadyH.cons rfl (fun K hK0 => ?_) AllReadyH.nil
            have hK := hK0.out
            clear hK0
            rw [if_pos (by kernel_rfl)]
            refine wp_go_call 32 #[v4, v5] (fun _ => by kernel_rfl) ((cmp_is _ _ (x + z) (y + z) p 9 _ (by exact i4_5) (by exact i5_5) (by decide) (by exact (HF.out.1.add HF.out.2.2)) (by exact (HF.out.2.1.add HF.out.2.2)) (by exact HN.out.2.2.2.2.1)).mono ?k78)
            rintro e w6 ⟨rfl, hb6⟩
            have B6 := B5.step hb6 rfl
            have bl6 := begun_then bl5 hb6 rfl rfl rfl rfl
            clear B5 bl5 hb6 i4_5 i5_5
            refine ⟨(.int .i64 p), rfl, hK _ _ (B6.cells) (fun hH6 => ?_)⟩
            clear hK K hH5
            change wpAnyH _ _ _ _ _ _ _ (Act.put _ (some 143) _) _
            simp only [Act.put, List.setIfInBounds_toArray, List.set_cons_zero, List.set_cons_succ]
            refine wpAnyH_ready (rs := [36]) (by kernel_rfl) (by simp) ?_
            refine AllReadyH.cons rfl (fun K hK0 => ?_) AllReadyH.nil
            have hK := hK0.out
            clear hK0
            rw [if_pos (by kernel_rfl)]
            refine wp_go_call 32 #[(.agg #[X1, X2]), (.agg #[Y1, Y2])] (fun _ => by kernel_rfl) ((cmp_is _ _ x y p 8 _ (by exact B6.ix) (by exact B6.iy) (by decide) (by exact HF.out.1) (by exact HF.out.2.1) (by exact HN.out.1)).mono ?k79)
            rintro e w7 ⟨rfl, hb7⟩
            have B7 := B6.step hb7 rfl
            have bl7 := begun_then bl6 hb7 rfl rfl rfl rfl
            clear B6 bl6 hb7
            refine ⟨(.int .i64 p), rfl, hK _ _ (B7.cells) (fun hH7 => ?_)⟩
            clear hK K hH6
            change wpAnyH _ _ _ _ _ _ _ (Act.put _ (some 146) _) _
            simp only [Act.put, List.setIfInBounds_toArray, List.set_cons_zero, List.set_cons_succ]
            refine wpAnyH_take (i := 37) (v := (.bool false)) rfl (by kernel_rfl) (by kernel_rfl) (by kernel_rfl) (fun _ _ _ h => h) (Or.inl ⟨by kernel_rfl, fun w0 _ => Eq.trans (b := Result.ok (Next.value (.bool (p != p))) w0) (by kernel_rfl) (by rw [hne])⟩) hH7 ?_
            change wpAnyH _ _ _ _ _ _ _ (Act.put _ (some 147) _) _
            simp only [Act.put, List.setIfInBounds_toArray, List.set_cons_zero, List.set_cons_succ]
            refine wpAnyH_take (i := 38) (v := (.bool false)) rfl (by kernel_rfl) (by kernel_rfl) (by kernel_rfl) (fun _ _ _ h => h) (Or.inl ⟨by kernel_rfl, fun _ _ => by kernel_rfl⟩) hH7 ?_
            change wpAnyH _ _ _ _ _ _ _ (Act.put _ (some 148) _) _
            simp only [Act.put, List.setIfInBounds_toArray, List.set_cons_zero, List.set_cons_succ]
            refine wpAnyH_take (i := 39) (v := (.bool false)) rfl (by kernel_rfl) (by kernel_rfl) (by kernel_rfl) (fun _ _ _ h => h) (Or.inl ⟨by kernel_rfl, fun _ _ => by kernel_rfl⟩) hH7 ?_
            change wpAnyH _ _ _ _ _ _ _ (Act.put _ (some 149) _) _
            simp only [Act.put, List.setIfInBounds_toArray, List.set_cons_zero, List.set_cons_succ]
            refine wpAnyH_take (i := 40) (v := (.agg #[Z1, Z2])) rfl (by kernel_rfl) (by kernel_rfl) (by kernel_rfl) (fun _ _ _ h => h) (Or.inl ⟨by kernel_rfl, ?y80⟩) hH7 ?r80
            case y80 => (intro w0 hS0; (try dsimp only at hS0); go_simp)
            change wpAnyH _ _ _ _ _ _ _ (Act.put _ (some 150) _) _
            simp only [Act.put, List.setIfInBounds_toArray, List.set_cons_zero, List.set_cons_succ]
            refine wpAnyH_ready (rs := [41]) (by kernel_rfl) (by simp) ?_
            refine AllReadyH.cons rfl (fun K hK0 => ?_) AllReadyH.nil
            have hK := hK0.out
            clear hK0
            rw [if_pos (by kernel_rfl)]
            refine wp_go_call 22 #[(.agg #[Z1, Z2])] (fun _ => by kernel_rfl) ((sign_is _ z s 8 _ (by exact B7.iz) (by decide) (by exact HF.out.2.2) (by exact HN.out.2.2.2.2.2.2)).mono ?k81)
            rintro e w8 ⟨rfl, hb8⟩
            have B8 := B7.step hb8 rfl
            have bl8 := begun_then bl7 hb8 rfl rfl rfl rfl
            clear B7 bl7 hb8
            refine ⟨(.int .i64 s), rfl, hK _ _ (B8.cells) (fun hH8 => ?_)⟩
            clear hK K hH7
            change wpAnyH _ _ _ _ _ _ _ (Act.put _ (some 151) _) _
            simp only [Act.put, List.setIfInBounds_toArray, List.set_cons_zero, List.set_cons_succ]
            refine wpAnyH_take (i := 42) (v := (.bool true)) rfl (by kernel_rfl) (by kernel_rfl) (by kernel_rfl) (fun _ _ _ h => h) (Or.inl ⟨by kernel_rfl, fun w0 _ => Eq.trans (b := Result.ok (Next.value (.bool (decide ((0 : Int) < s)))) w0) (by kernel_rfl) (by rw [ds])⟩) hH8 ?_
            change wpAnyH _ _ _ _ _ _ _ (Act.put _ (some 152) _) _
            simp only [Act.put, List.setIfInBounds_toArray, List.set_cons_zero, List.set_cons_succ]
            refine wpAnyH_take (i := 43) (v := (.bool true)) rfl (by kernel_rfl) (by kernel_rfl) (by kernel_rfl) (fun _ _ _ h => h) (Or.inl ⟨by kernel_rfl, fun _ _ => by kernel_rfl⟩) hH8 ?_
            change wpAnyH _ _ _ _ _ _ _ (Act.put _ (some 153) _) _
            simp only [Act.put, List.setIfInBounds_toArray, List.set_cons_zero, List.set_cons_succ]
            refine wpAnyH_take (i := 44) (v := (.agg #[X1, X2])) rfl (by kernel_rfl) (by kernel_rfl) (by kernel_rfl) (fun _ _ _ h => h) (Or.inl ⟨by kernel_rfl, ?y82⟩) hH8 ?r82
            case y82 => (intro w0 hS0; (try dsimp only at hS0); go_simp)
            change wpAnyH _ _ _ _ _ _ _ (Act.put _ (some 154) _) _
            simp only [Act.put, List.setIfInBounds_toArray, List.set_cons_zero, List.set_cons_succ]
            refine wpAnyH_take (i := 45) (v := (.agg #[Z1, Z2])) rfl (by kernel_rfl) (by kernel_rfl) (by kernel_rfl) (fun _ _ _ h => h) (Or.inl ⟨by kernel_rfl, ?y83⟩) hH8 ?r83
            case y83 => (intro w0 hS0; (try dsimp only at hS0); go_simp)
            change wpAnyH _ _ _ _ _ _ _ (Act.put _ (some 155) _) _
            simp only [Act.put, List.setIfInBounds_toArray, List.set_cons_zero, List.set_cons_succ]
            refine wpAnyH_take (i := 47) (v := (.agg #[Y1, Y2])) rfl (by kernel_rfl) (by kernel_rfl) (by kernel_rfl) (fun _ _ _ h => h) (Or.inl ⟨by kernel_rfl, ?y84⟩) hH8 ?r84
            case y84 => (intro w0 hS0; (try dsimp only at hS0); go_simp)
            change wpAnyH _ _ _ _ _ _ _ (Act.put _ (some 157) _) _
            simp only [Act.put, List.setIfInBounds_toArray, List.set_cons_zero, List.set_cons_succ]
            refine wpAnyH_take (i := 48) (v := (.agg #[Z1, Z2])) rfl (by kernel_rfl) (by kernel_rfl) (by kernel_rfl) (fun _ _ _ h => h) (Or.inl ⟨by kernel_rfl, ?y85⟩) hH8 ?r85
            case y85 => (intro w0 hS0; (try dsimp only at hS0); go_simp)
            change wpAnyH _ _ _ _ _ _ _ (Act.put _ (some 158) _) _
            simp only [Act.put, List.setIfInBounds_toArray, List.set_cons_zero, List.set_cons_succ]
            refine wpAnyH_take (i := 51) (v := (.agg #[X1, X2])) rfl (by kernel_rfl) (by kernel_rfl) (by kernel_rfl) (fun _ _ _ h => h) (Or.inl ⟨by kernel_rfl, ?y86⟩) hH8 ?r86
            case y86 => (intro w0 hS0; (try dsimp only at hS0); go_simp)
            change wpAnyH _ _ _ _ _ _ _ (Act.put _ (some 161) _) _
            simp only [Act.put, List.setIfInBounds_toArray, List.set_cons_zero, List.set_cons_succ]
            refine wpAnyH_take (i := 52) (v := (.agg #[Y1, Y2])) rfl (by kernel_rfl) (by kernel_rfl) (by kernel_rfl) (fun _ _ _ h => h) (Or.inl ⟨by kernel_rfl, ?y87⟩) hH8 ?r87
            case y87 => (intro w0 hS0; (try dsimp only at hS0); go_simp)
            change wpAnyH _ _ _ _ _ _ _ (Act.put _ (some 162) _) _
            simp only [Act.put, List.setIfInBounds_toArray, List.set_cons_zero, List.set_cons_succ]
            refine wpAnyH_ready (rs := [46]) (by kernel_rfl) (by simp) ?_
            refine AllReadyH.cons rfl (fun K hK0 => ?_) AllReadyH.nil
            have hK := hK0.out
            clear hK0
            rw [if_pos (by kernel_rfl)]
            refine wp_go_call 42 #[(.agg #[X1, X2]), (.agg #[Z1, Z2])] (fun _ => by kernel_rfl) ((Mul_small _ _ x z 8 8 _ (by exact B8.ix) (by exact B8.iz) (by decide) (by exact HF.out.1) (by decide) (by exact HF.out.2.2)).mono ?k88)
            rintro e w9 ⟨v9, rfl, i9_9, hb9⟩
            have B9 := B8.step hb9 rfl
            have bl9 := begun_then bl8 hb9 rfl rfl rfl rfl
            clear B8 bl8 hb9
            refine ⟨v9, rfl, hK _ _ (B9.cells) (fun hH9 => ?_)⟩
            clear hK K hH8
            change wpAnyH _ _ _ _ _ _ _ (Act.put _ (some 156) _) _
            simp only [Act.put, List.setIfInBounds_toArray, List.set_cons_zero, List.set_cons_succ]
            refine wpAnyH_ready (rs := [49]) (by kernel_rfl) (by simp) ?_
            refine AllReadyH.cons rfl (fun K hK0 => ?_) AllReadyH.nil
            have hK := hK0.out
            clear hK0
            rw [if_pos (by kernel_rfl)]
            refine wp_go_call 42 #[(.agg #[Y1, Y2]), (.agg #[Z1, Z2])] (fun _ => by kernel_rfl) ((Mul_small _ _ y z 8 8 _ (by exact B9.iy) (by exact B9.iz) (by decide) (by exact HF.out.2.1) (by decide) (by exact HF.out.2.2)).mono ?k89)
            rintro e w10 ⟨v10, rfl, i10_10, hb10⟩
            have B10 := B9.step hb10 rfl
            have bl10 := begun_then bl9 hb10 rfl rfl rfl rfl
            have i9_10 := i9_9.step hb10 rfl
            clear B9 bl9 hb10 i9_9
            refine ⟨v10, rfl, hK _ _ (B10.cells) (fun hH10 => ?_)⟩
            clear hK K hH9
            change wpAnyH _ _ _ _ _ _ _ (Act.put _ (some 159) _) _
            simp only [Act.put, List.setIfInBounds_toArray, List.set_cons_zero, List.set_cons_succ]
            refine wpAnyH_ready (rs := [50]) (by kernel_rfl) (by simp) ?_
            refine AllReadyH.cons rfl (fun K hK0 => ?_) AllReadyH.nil
            have hK := hK0.out
            clear hK0
            rw [if_pos (by kernel_rfl)]
            refine wp_go_call 32 #[v9, v10] (fun _ => by kernel_rfl) ((cmp_is _ _ (x * z) (y * z) p 16 _ (by exact i9_10) (by exact i10_10) (by decide) (by exact (HF.out.1.mul HF.out.2.2)) (by exact (HF.out.2.1.mul HF.out.2.2)) (by exact HN.out.2.2.2.2.2.1)).mono ?k90)
            rintro e w11 ⟨rfl, hb11⟩
            have B11 := B10.step hb11 rfl
            have bl11 := begun_then bl10 hb11 rfl rfl rfl rfl
            clear B10 bl10 hb11 i9_10 i10_10
            refine ⟨(.int .i64 p), rfl, hK _ _ (B11.cells) (fun hH11 => ?_)⟩
            clear hK K hH10
            change wpAnyH _ _ _ _ _ _ _ (Act.put _ (some 160) _) _
            simp only [Act.put, List.setIfInBounds_toArray, List.set_cons_zero, List.set_cons_succ]
            refine wpAnyH_ready (rs := [53]) (by kernel_rfl) (by simp) ?_
            refine AllReadyH.cons rfl (fun K hK0 => ?_) AllReadyH.nil
            have hK := hK0.out
            clear hK0
            rw [if_pos (by kernel_rfl)]
            refine wp_go_call 32 #[(.agg #[X1, X2]), (.agg #[Y1, Y2])] (fun _ => by kernel_rfl) ((cmp_is _ _ x y p 8 _ (by exact B11.ix) (by exact B11.iy) (by decide) (by exact HF.out.1) (by exact HF.out.2.1) (by exact HN.out.1)).mono ?k91)
            rintro e w12 ⟨rfl, hb12⟩
            have B12 := B11.step hb12 rfl
            have bl12 := begun_then bl11 hb12 rfl rfl rfl rfl
            clear B11 bl11 hb12
            refine ⟨(.int .i64 p), rfl, hK _ _ (B12.cells) (fun hH12 => ?_)⟩
            clear hK K hH11
            change wpAnyH _ _ _ _ _ _ _ (Act.put _ (some 163) _) _
            simp only [Act.put, List.setIfInBounds_toArray, List.set_cons_zero, List.set_cons_succ]
            refine wpAnyH_take (i := 54) (v := (.bool false)) rfl (by kernel_rfl) (by kernel_rfl) (by kernel_rfl) (fun _ _ _ h => h) (Or.inl ⟨by kernel_rfl, fun w0 _ => Eq.trans (b := Result.ok (Next.value (.bool (p != p))) w0) (by kernel_rfl) (by rw [hne])⟩) hH12 ?_
            change wpAnyH _ _ _ _ _ _ _ (Act.put _ (some 164) _) _
            simp only [Act.put, List.setIfInBounds_toArray, List.set_cons_zero, List.set_cons_succ]
            refine wpAnyH_take (i := 55) (v := (.bool false)) rfl (by kernel_rfl) (by kernel_rfl) (by kernel_rfl) (fun _ _ _ h => h) (Or.inl ⟨by kernel_rfl, fun _ _ => by kernel_rfl⟩) hH12 ?_
            change wpAnyH _ _ _ _ _ _ _ (Act.put _ (some 165) _) _
            simp only [Act.put, List.setIfInBounds_toArray, List.set_cons_zero, List.set_cons_succ]
            refine wpAnyH_take (i := 56) (v := (.bool false)) rfl (by kernel_rfl) (by kernel_rfl) (by kernel_rfl) (fun _ _ _ h => h) (Or.inl ⟨by kernel_rfl, fun _ _ => by kernel_rfl⟩) hH12 ?_
            change wpAnyH _ _ _ _ _ _ _ (Act.put _ (some 166) _) _
            simp only [Act.put, List.setIfInBounds_toArray, List.set_cons_zero, List.set_cons_succ]
            refine wpAnyH_done (by kernel_rfl) ?_ _
            go_wp2_with fail
            go_meet
            exact ⟨rfl, B12, bl12⟩
          · as_aux_lemma =>
            have HN := Lib.hid (N0.pos hs)
            have hw2 := N0.wrap3
            clear N0
            have ds : decide ((0 : Int) < s) = true := by exact decide_eq_true hs
            have dp : decide (p ≤ (0 : Int)) = true := by exact decide_eq_true hp
            have dq : decide (q ≤ (0 : Int)) = false := by exact decide_eq_false (by omega)
            have hne : (p != p) = false := bne_self_eq_false p
            refine wp_region_held_drew (S := (fun w' => w'.cell? ⟨r8, 0, none⟩ = some X1 ∧ w'.cell? ⟨r8, 1, none⟩ = some X2 ∧ w'.cell? ⟨r9, 0, none⟩ = some Y1 ∧ w'.cell? ⟨r9, 1, none⟩ = some Y2 ∧ w'.cell? ⟨r10, 0, none⟩ = some Z1 ∧ w'.cell? ⟨r10, 1, none⟩ = some Z2)) (by kernel_rfl) (Bs.cells) (fun hH0 => ?_)
            refine wpAnyH_take (i := 0) (v := (.agg #[X1, X2])) rfl (by kernel_rfl) (by kernel_rfl) (by kernel_rfl) (fun _ _ _ h => h) (Or.inl ⟨by kernel_rfl, ?y92⟩) hH0 ?r92
            case y92 => (intro w0 hS0; (try dsimp only at hS0); go_simp)
            change wpAnyH _ _ _ _ _ _ _ (Act.put _ (some 110) _) _
            simp only [Act.put, List.setIfInBounds_toArray, List.set_cons_zero, List.set_cons_succ]
            refine wpAnyH_take (i := 1) (v := (.agg #[Y1, Y2])) rfl (by kernel_rfl) (by kernel_rfl) (by kernel_rfl) (fun _ _ _ h => h) (Or.inl ⟨by kernel_rfl, ?y93⟩) hH0 ?r93
            case y93 => (intro w0 hS0; (try dsimp only at hS0); go_simp)
            change wpAnyH _ _ _ _ _ _ _ (Act.put _ (some 111) _) _
            simp only [Act.put, List.setIfInBounds_toArray, List.set_cons_zero, List.set_cons_succ]
            refine wpAnyH_take (i := 3) (v := (.agg #[Y1, Y2])) rfl (by kernel_rfl) (by kernel_rfl) (by kernel_rfl) (fun _ _ _ h => h) (Or.inl ⟨by kernel_rfl, ?y94⟩) hH0 ?r94
            case y94 => (intro w0 hS0; (try dsimp only at hS0); go_simp)
            change wpAnyH _ _ _ _ _ _ _ (Act.put _ (some 113) _) _
            simp only [Act.put, List.setIfInBounds_toArray, List.set_cons_zero, List.set_cons_succ]
            refine wpAnyH_take (i := 4) (v := (.agg #[X1, X2])) rfl (by kernel_rfl) (by kernel_rfl) (by kernel_rfl) (fun _ _ _ h => h) (Or.inl ⟨by kernel_rfl, ?y95⟩) hH0 ?r95
            case y95 => (intro w0 hS0; (try dsimp only at hS0); go_simp)
            change wpAnyH _ _ _ _ _ _ _ (Act.put _ (some 114) _) _
            simp only [Act.put, List.setIfInBounds_toArray, List.set_cons_zero, List.set_cons_succ]
            refine wpAnyH_ready (rs := [2]) (by kernel_rfl) (by simp) ?_
            refine AllReadyH.cons rfl (fun K hK0 => ?_) AllReadyH.nil
            have hK := hK0.out
            clear hK0
            rw [if_pos (by kernel_rfl)]
            refine wp_go_call 32 #[(.agg #[X1, X2]), (.agg #[Y1, Y2])] (fun _ => by kernel_rfl) ((cmp_is _ _ x y p 8 _ (by exact Bs.ix) (by exact Bs.iy) (by decide) (by exact HF.out.1) (by exact HF.out.2.1) (by exact HN.out.1)).mono ?k96)
            rintro e w1 ⟨rfl, hb1⟩
            have B1 := Bs.step hb1 rfl
            have bl1 := begun_then bls hb1 rfl rfl rfl rfl
            clear Bs bls hb1
            refine ⟨(.int .i64 p), rfl, hK _ _ (B1.cells) (fun hH1 => ?_)⟩
            clear hK K hH0
            change wpAnyH _ _ _ _ _ _ _ (Act.put _ (some 112) _) _
            simp only [Act.put, List.setIfInBounds_toArray, List.set_cons_zero, List.set_cons_succ]
            refine wpAnyH_ready (rs := [5]) (by kernel_rfl) (by simp) ?_
            refine AllReadyH.cons rfl (fun K hK0 => ?_) AllReadyH.nil
            have hK := hK0.out
            clear hK0
            rw [if_pos (by kernel_rfl)]
            refine wp_go_call 32 #[(.agg #[Y1, Y2]), (.agg #[X1, X2])] (fun _ => by kernel_rfl) ((cmp_is _ _ y x (-p) 8 _ (by exact B1.iy) (by exact B1.ix) (by decide) (by exact HF.out.2.1) (by exact HF.out.1) (by exact HN.out.2.1)).mono ?k97)
            rintro e w2 ⟨rfl, hb2⟩
            have B2 := B1.step hb2 rfl
            have bl2 := begun_then bl1 hb2 rfl rfl rfl rfl
            clear B1 bl1 hb2
            refine ⟨(.int .i64 (-p)), rfl, hK _ _ (B2.cells) (fun hH2 => ?_)⟩
            clear hK K hH1
            change wpAnyH _ _ _ _ _ _ _ (Act.put _ (some 115) _) _
            simp only [Act.put, List.setIfInBounds_toArray, List.set_cons_zero, List.set_cons_succ]
            refine wpAnyH_take (i := 6) (v := (.int .i64 p)) rfl (by kernel_rfl) (by kernel_rfl) (by kernel_rfl) (fun _ _ _ h => h) (Or.inl ⟨by kernel_rfl, fun w0 _ => Eq.trans (b := Result.ok (Next.value (.int .i64 (IntKind.i64.wrap (0 - -p)))) w0) (by kernel_rfl) (by rw [hw2])⟩) hH2 ?_
            change wpAnyH _ _ _ _ _ _ _ (Act.put _ (some 116) _) _
            simp only [Act.put, List.setIfInBounds_toArray, List.set_cons_zero, List.set_cons_succ]
            refine wpAnyH_take (i := 7) (v := (.bool false)) rfl (by kernel_rfl) (by kernel_rfl) (by kernel_rfl) (fun _ _ _ h => h) (Or.inl ⟨by kernel_rfl, fun w0 _ => Eq.trans (b := Result.ok (Next.value (.bool (p != p))) w0) (by kernel_rfl) (by rw [hne])⟩) hH2 ?_
            change wpAnyH _ _ _ _ _ _ _ (Act.put _ (some 117) _) _
            simp only [Act.put, List.setIfInBounds_toArray, List.set_cons_zero, List.set_cons_succ]
            refine wpAnyH_take (i := 8) (v := (.bool false)) rfl (by kernel_rfl) (by kernel_rfl) (by kernel_rfl) (fun _ _ _ h => h) (Or.inl ⟨by kernel_rfl, fun _ _ => by kernel_rfl⟩) hH2 ?_
            change wpAnyH _ _ _ _ _ _ _ (Act.put _ (some 118) _) _
            simp only [Act.put, List.setIfInBounds_toArray, List.set_cons_zero, List.set_cons_succ]
            refine wpAnyH_take (i := 9) (v := (.agg #[X1, X2])) rfl (by kernel_rfl) (by kernel_rfl) (by kernel_rfl) (fun _ _ _ h => h) (Or.inl ⟨by kernel_rfl, ?y98⟩) hH2 ?r98
            case y98 => (intro w0 hS0; (try dsimp only at hS0); go_simp)
            change wpAnyH _ _ _ _ _ _ _ (Act.put _ (some 119) _) _
            simp only [Act.put, List.setIfInBounds_toArray, List.set_cons_zero, List.set_cons_succ]
            refine wpAnyH_take (i := 10) (v := (.agg #[Y1, Y2])) rfl (by kernel_rfl) (by kernel_rfl) (by kernel_rfl) (fun _ _ _ h => h) (Or.inl ⟨by kernel_rfl, ?y99⟩) hH2 ?r99
            case y99 => (intro w0 hS0; (try dsimp only at hS0); go_simp)
            change wpAnyH _ _ _ _ _ _ _ (Act.put _ (some 120) _) _
            simp only [Act.put, List.setIfInBounds_toArray, List.set_cons_zero, List.set_cons_succ]
            refine wpAnyH_ready (rs := [11]) (by kernel_rfl) (by simp) ?_
            refine AllReadyH.cons rfl (fun K hK0 => ?_) AllReadyH.nil
            have hK := hK0.out
            clear hK0
            rw [if_pos (by kernel_rfl)]
            refine wp_go_call 32 #[(.agg #[X1, X2]), (.agg #[Y1, Y2])] (fun _ => by kernel_rfl) ((cmp_is _ _ x y p 8 _ (by exact B2.ix) (by exact B2.iy) (by decide) (by exact HF.out.1) (by exact HF.out.2.1) (by exact HN.out.1)).mono ?k100)
            rintro e w3 ⟨rfl, hb3⟩
            have B3 := B2.step hb3 rfl
            have bl3 := begun_then bl2 hb3 rfl rfl rfl rfl
            clear B2 bl2 hb3
            refine ⟨(.int .i64 p), rfl, hK _ _ (B3.cells) (fun hH3 => ?_)⟩
            clear hK K hH2
            change wpAnyH _ _ _ _ _ _ _ (Act.put _ (some 121) _) _
            simp only [Act.put, List.setIfInBounds_toArray, List.set_cons_zero, List.set_cons_succ]
            refine wpAnyH_take (i := 12) (v := (.bool true)) rfl (by kernel_rfl) (by kernel_rfl) (by kernel_rfl) (fun _ _ _ h => h) (Or.inl ⟨by kernel_rfl, fun w0 _ => Eq.trans (b := Result.ok (Next.value (.bool (decide (p ≤ (0 : Int))))) w0) (by kernel_rfl) (by rw [dp])⟩) hH3 ?_
            change wpAnyH _ _ _ _ _ _ _ (Act.put _ (some 122) _) _
            simp only [Act.put, List.setIfInBounds_toArray, List.set_cons_zero, List.set_cons_succ]
            refine wpAnyH_take (i := 13) (v := (.bool true)) rfl (by kernel_rfl) (by kernel_rfl) (by kernel_rfl) (fun _ _ _ h => h) (Or.inl ⟨by kernel_rfl, fun _ _ => by kernel_rfl⟩) hH3 ?_
            change wpAnyH _ _ _ _ _ _ _ (Act.put _ (some 123) _) _
            simp only [Act.put, List.setIfInBounds_toArray, List.set_cons_zero, List.set_cons_succ]
            refine wpAnyH_take (i := 14) (v := (.agg #[Y1, Y2])) rfl (by kernel_rfl) (by kernel_rfl) (by kernel_rfl) (fun _ _ _ h => h) (Or.inl ⟨by kernel_rfl, ?y101⟩) hH3 ?r101
            case y101 => (intro w0 hS0; (try dsimp only at hS0); go_simp)
            change wpAnyH _ _ _ _ _ _ _ (Act.put _ (some 124) _) _
            simp only [Act.put, List.setIfInBounds_toArray, List.set_cons_zero, List.set_cons_succ]
            refine wpAnyH_take (i := 15) (v := (.agg #[Z1, Z2])) rfl (by kernel_rfl) (by kernel_rfl) (by kernel_rfl) (fun _ _ _ h => h) (Or.inl ⟨by kernel_rfl, ?y102⟩) hH3 ?r102
            case y102 => (intro w0 hS0; (try dsimp only at hS0); go_simp)
            change wpAnyH _ _ _ _ _ _ _ (Act.put _ (some 125) _) _
            simp only [Act.put, List.setIfInBounds_toArray, List.set_cons_zero, List.set_cons_succ]
            refine wpAnyH_ready (rs := [16]) (by kernel_rfl) (by simp) ?_
            refine AllReadyH.cons rfl (fun K hK0 => ?_) AllReadyH.nil
            have hK := hK0.out
            clear hK0
            rw [if_pos (by kernel_rfl)]
            refine wp_go_call 32 #[(.agg #[Y1, Y2]), (.agg #[Z1, Z2])] (fun _ => by kernel_rfl) ((cmp_is _ _ y z q 8 _ (by exact B3.iy) (by exact B3.iz) (by decide) (by exact HF.out.2.1) (by exact HF.out.2.2) (by exact HN.out.2.2.1)).mono ?k103)
            rintro e w4 ⟨rfl, hb4⟩
            have B4 := B3.step hb4 rfl
            have bl4 := begun_then bl3 hb4 rfl rfl rfl rfl
            clear B3 bl3 hb4
            refine ⟨(.int .i64 q), rfl, hK _ _ (B4.cells) (fun hH4 => ?_)⟩
            clear hK K hH3
            change wpAnyH _ _ _ _ _ _ _ (Act.put _ (some 126) _) _
            simp only [Act.put, List.setIfInBounds_toArray, List.set_cons_zero, List.set_cons_succ]
            refine wpAnyH_take (i := 17) (v := (.bool false)) rfl (by kernel_rfl) (by kernel_rfl) (by kernel_rfl) (fun _ _ _ h => h) (Or.inl ⟨by kernel_rfl, fun w0 _ => Eq.trans (b := Result.ok (Next.value (.bool (decide (q ≤ (0 : Int))))) w0) (by kernel_rfl) (by rw [dq])⟩) hH4 ?_
            change wpAnyH _ _ _ _ _ _ _ (Act.put _ (some 127) _) _
            simp only [Act.put, List.setIfInBounds_toArray, List.set_cons_zero, List.set_cons_succ]
            refine wpAnyH_take (i := 18) (v := (.bool false)) rfl (by kernel_rfl) (by kernel_rfl) (by kernel_rfl) (fun _ _ _ h => h) (Or.inl ⟨by kernel_rfl, fun _ _ => by kernel_rfl⟩) hH4 ?_
            change wpAnyH _ _ _ _ _ _ _ (Act.put _ (some 128) _) _
            simp only [Act.put, List.setIfInBounds_toArray, List.set_cons_zero, List.set_cons_succ]
            refine wpAnyH_take (i := 19) (v := (.bool false)) rfl (by kernel_rfl) (by kernel_rfl) (by kernel_rfl) (fun _ _ _ h => h) (Or.inl ⟨by kernel_rfl, fun _ _ => by kernel_rfl⟩) hH4 ?_
            change wpAnyH _ _ _ _ _ _ _ (Act.put _ (some 129) _) _
            simp only [Act.put, List.setIfInBounds_toArray, List.set_cons_zero, List.set_cons_succ]
            refine wpAnyH_take (i := 20) (v := undef) rfl (by kernel_rfl) (by kernel_rfl) (by kernel_rfl) (fun _ _ _ h => h) (Or.inr ⟨by kernel_rfl, rfl⟩) hH4 ?_
            change wpAnyH _ _ _ _ _ _ _ (Act.put _ (some 130) _) _
            simp only [Act.put, List.setIfInBounds_toArray, List.set_cons_zero, List.set_cons_succ]
            refine wpAnyH_take (i := 21) (v := undef) rfl (by kernel_rfl) (by kernel_rfl) (by kernel_rfl) (fun _ _ _ h => h) (Or.inr ⟨by kernel_rfl, rfl⟩) hH4 ?_
            change wpAnyH _ _ _ _ _ _ _ (Act.put _ (some 131) _) _
            simp only [Act.put, List.setIfInBounds_toArray, List.set_cons_zero, List.set_cons_succ]
            refine wpAnyH_take (i := 22) (v := undef) rfl (by kernel_rfl) (by kernel_rfl) (by kernel_rfl) (fun _ _ _ h => h) (Or.inr ⟨by kernel_rfl, rfl⟩) hH4 ?_
            change wpAnyH _ _ _ _ _ _ _ (Act.put _ (some 132) _) _
            simp only [Act.put, List.setIfInBounds_toArray, List.set_cons_zero, List.set_cons_succ]
            refine wpAnyH_take (i := 23) (v := undef) rfl (by kernel_rfl) (by kernel_rfl) (by kernel_rfl) (fun _ _ _ h => h) (Or.inr ⟨by kernel_rfl, rfl⟩) hH4 ?_
            change wpAnyH _ _ _ _ _ _ _ (Act.put _ (some 133) _) _
            simp only [Act.put, List.setIfInBounds_toArray, List.set_cons_zero, List.set_cons_succ]
            refine wpAnyH_take (i := 24) (v := (Value.bool false)) rfl (by kernel_rfl) (by kernel_rfl) (by kernel_rfl) (fun _ _ _ h => h) (Or.inl ⟨by kernel_rfl, fun _ _ => by kernel_rfl⟩) hH4 ?_
            change wpAnyH _ _ _ _ _ _ _ (Act.put _ (some 134) _) _
            simp only [Act.put, List.setIfInBounds_toArray, List.set_cons_zero, List.set_cons_succ]
            refine wpAnyH_take (i := 25) (v := (Value.bool false)) rfl (by kernel_rfl) (by kernel_rfl) (by kernel_rfl) (fun _ _ _ h => h) (Or.inl ⟨by kernel_rfl, fun _ _ => by kernel_rfl⟩) hH4 ?_
            change wpAnyH _ _ _ _ _ _ _ (Act.put _ (some 135) _) _
            simp only [Act.put, List.setIfInBounds_toArray, List.set_cons_zero, List.set_cons_succ]
            refine wpAnyH_take (i := 26) (v := (Value.bool false)) rfl (by kernel_rfl) (by kernel_rfl) (by kernel_rfl) (fun _ _ _ h => h) (Or.inl ⟨by kernel_rfl, fun _ _ => by kernel_rfl⟩) hH4 ?_
            change wpAnyH _ _ _ _ _ _ _ (Act.put _ (some 136) _) _
            simp only [Act.put, List.setIfInBounds_toArray, List.set_cons_zero, List.set_cons_succ]
            refine wpAnyH_take (i := 27) (v := (.agg #[X1, X2])) rfl (by kernel_rfl) (by kernel_rfl) (by kernel_rfl) (fun _ _ _ h => h) (Or.inl ⟨by kernel_rfl, ?y104⟩) hH4 ?r104
            case y104 => (intro w0 hS0; (try dsimp only at hS0); go_simp)
            change wpAnyH _ _ _ _ _ _ _ (Act.put _ (some 137) _) _
            simp only [Act.put, List.setIfInBounds_toArray, List.set_cons_zero, List.set_cons_succ]
            refine wpAnyH_take (i := 28) (v := (.agg #[Z1, Z2])) rfl (by kernel_rfl) (by kernel_rfl) (by kernel_rfl) (fun _ _ _ h => h) (Or.inl ⟨by kernel_rfl, ?y105⟩) hH4 ?r105
            case y105 => (intro w0 hS0; (try dsimp only at hS0); go_simp)
            change wpAnyH _ _ _ _ _ _ _ (Act.put _ (some 138) _) _
            simp only [Act.put, List.setIfInBounds_toArray, List.set_cons_zero, List.set_cons_succ]
            refine wpAnyH_take (i := 30) (v := (.agg #[Y1, Y2])) rfl (by kernel_rfl) (by kernel_rfl) (by kernel_rfl) (fun _ _ _ h => h) (Or.inl ⟨by kernel_rfl, ?y106⟩) hH4 ?r106
            case y106 => (intro w0 hS0; (try dsimp only at hS0); go_simp)
            change wpAnyH _ _ _ _ _ _ _ (Act.put _ (some 140) _) _
            simp only [Act.put, List.setIfInBounds_toArray, List.set_cons_zero, List.set_cons_succ]
            refine wpAnyH_take (i := 31) (v := (.agg #[Z1, Z2])) rfl (by kernel_rfl) (by kernel_rfl) (by kernel_rfl) (fun _ _ _ h => h) (Or.inl ⟨by kernel_rfl, ?y107⟩) hH4 ?r107
            case y107 => (intro w0 hS0; (try dsimp only at hS0); go_simp)
            change wpAnyH _ _ _ _ _ _ _ (Act.put _ (some 141) _) _
            simp only [Act.put, List.setIfInBounds_toArray, List.set_cons_zero, List.set_cons_succ]
            refine wpAnyH_take (i := 34) (v := (.agg #[X1, X2])) rfl (by kernel_rfl) (by kernel_rfl) (by kernel_rfl) (fun _ _ _ h => h) (Or.inl ⟨by kernel_rfl, ?y108⟩) hH4 ?r108
            case y108 => (intro w0 hS0; (try dsimp only at hS0); go_simp)
            change wpAnyH _ _ _ _ _ _ _ (Act.put _ (some 144) _) _
            simp only [Act.put, List.setIfInBounds_toArray, List.set_cons_zero, List.set_cons_succ]
            refine wpAnyH_take (i := 35) (v := (.agg #[Y1, Y2])) rfl (by kernel_rfl) (by kernel_rfl) (by kernel_rfl) (fun _ _ _ h => h) (Or.inl ⟨by kernel_rfl, ?y109⟩) hH4 ?r109
            case y109 => (intro w0 hS0; (try dsimp only at hS0); go_simp)
            change wpAnyH _ _ _ _ _ _ _ (Act.put _ (some 145) _) _
            simp only [Act.put, List.setIfInBounds_toArray, List.set_cons_zero, List.set_cons_succ]
            refine wpAnyH_ready (rs := [29]) (by kernel_rfl) (by simp) ?_
            refine AllReadyH.cons rfl (fun K hK0 => ?_) AllReadyH.nil
            have hK := hK0.out
            clear hK0
            rw [if_pos (by kernel_rfl)]
            refine wp_go_call 38 #[(.agg #[X1, X2]), (.agg #[Z1, Z2])] (fun _ => by kernel_rfl) ((Add_any _ _ x z 8 _ (by exact B4.ix) (by exact B4.iz) (by decide) (by exact HF.out.1) (by exact HF.out.2.2)).mono ?k110)
            rintro e w5 ⟨v5, rfl, i5_5, hb5⟩
            have B5 := B4.step hb5 rfl
            have bl5 := begun_then bl4 hb5 rfl rfl rfl rfl
            clear B4 bl4 hb5
            refine ⟨v5, rfl, hK _ _ (B5.cells) (fun hH5 => ?_)⟩
            clear hK K hH4
            change wpAnyH _ _ _ _ _ _ _ (Act.put _ (some 139) _) _
            simp only [Act.put, List.setIfInBounds_toArray, List.set_cons_zero, List.set_cons_succ]
            refine wpAnyH_ready (rs := [32]) (by kernel_rfl) (by simp) ?_
            refine AllReadyH.cons rfl (fun K hK0 => ?_) AllReadyH.nil
            have hK := hK0.out
            clear hK0
            rw [if_pos (by kernel_rfl)]
            refine wp_go_call 38 #[(.agg #[Y1, Y2]), (.agg #[Z1, Z2])] (fun _ => by kernel_rfl) ((Add_any _ _ y z 8 _ (by exact B5.iy) (by exact B5.iz) (by decide) (by exact HF.out.2.1) (by exact HF.out.2.2)).mono ?k111)
            rintro e w6 ⟨v6, rfl, i6_6, hb6⟩
            have B6 := B5.step hb6 rfl
            have bl6 := begun_then bl5 hb6 rfl rfl rfl rfl
            have i5_6 := i5_5.step hb6 rfl
            clear B5 bl5 hb6 i5_5
            refine ⟨v6, rfl, hK _ _ (B6.cells) (fun hH6 => ?_)⟩
            clear hK K hH5
            change wpAnyH _ _ _ _ _ _ _ (Act.put _ (some 142) _) _
            simp only [Act.put, List.setIfInBounds_toArray, List.set_cons_zero, List.set_cons_succ]
            refine wpAnyH_ready (rs := [33]) (by kernel_rfl) (by simp) ?_
            refine AllReadyH.cons rfl (fun K hK0 => ?_) AllReadyH.nil
            have hK := hK0.out
            clear hK0
            rw [if_pos (by kernel_rfl)]
            refine wp_go_call 32 #[v5, v6] (fun _ => by kernel_rfl) ((cmp_is _ _ (x + z) (y + z) p 9 _ (by exact i5_6) (by exact i6_6) (by decide) (by exact (HF.out.1.add HF.out.2.2)) (by exact (HF.out.2.1.add HF.out.2.2)) (by exact HN.out.2.2.2.2.1)).mono ?k112)
            rintro e w7 ⟨rfl, hb7⟩
            have B7 := B6.step hb7 rfl
            have bl7 := begun_then bl6 hb7 rfl rfl rfl rfl
            clear B6 bl6 hb7 i5_6 i6_6
            refine ⟨(.int .i64 p), rfl, hK _ _ (B7.cells) (fun hH7 => ?_)⟩
            clear hK K hH6
            change wpAnyH _ _ _ _ _ _ _ (Act.put _ (some 143) _) _
            simp only [Act.put, List.setIfInBounds_toArray, List.set_cons_zero, List.set_cons_succ]
            refine wpAnyH_ready (rs := [36]) (by kernel_rfl) (by simp) ?_
            refine AllReadyH.cons rfl (fun K hK0 => ?_) AllReadyH.nil
            have hK := hK0.out
            clear hK0
            rw [if_pos (by kernel_rfl)]
            refine wp_go_call 32 #[(.agg #[X1, X2]), (.agg #[Y1, Y2])] (fun _ => by kernel_rfl) ((cmp_is _ _ x y p 8 _ (by exact B7.ix) (by exact B7.iy) (by decide) (by exact HF.out.1) (by exact HF.out.2.1) (by exact HN.out.1)).mono ?k113)
            rintro e w8 ⟨rfl, hb8⟩
            have B8 := B7.step hb8 rfl
            have bl8 := begun_then bl7 hb8 rfl rfl rfl rfl
            clear B7 bl7 hb8
            refine ⟨(.int .i64 p), rfl, hK _ _ (B8.cells) (fun hH8 => ?_)⟩
            clear hK K hH7
            change wpAnyH _ _ _ _ _ _ _ (Act.put _ (some 146) _) _
            simp only [Act.put, List.setIfInBounds_toArray, List.set_cons_zero, List.set_cons_succ]
            refine wpAnyH_take (i := 37) (v := (.bool false)) rfl (by kernel_rfl) (by kernel_rfl) (by kernel_rfl) (fun _ _ _ h => h) (Or.inl ⟨by kernel_rfl, fun w0 _ => Eq.trans (b := Result.ok (Next.value (.bool (p != p))) w0) (by kernel_rfl) (by rw [hne])⟩) hH8 ?_
            change wpAnyH _ _ _ _ _ _ _ (Act.put _ (some 147) _) _
            simp only [Act.put, List.setIfInBounds_toArray, List.set_cons_zero, List.set_cons_succ]
            refine wpAnyH_take (i := 38) (v := (.bool false)) rfl (by kernel_rfl) (by kernel_rfl) (by kernel_rfl) (fun _ _ _ h => h) (Or.inl ⟨by kernel_rfl, fun _ _ => by kernel_rfl⟩) hH8 ?_
            change wpAnyH _ _ _ _ _ _ _ (Act.put _ (some 148) _) _
            simp only [Act.put, List.setIfInBounds_toArray, List.set_cons_zero, List.set_cons_succ]
            refine wpAnyH_take (i := 39) (v := (.bool false)) rfl (by kernel_rfl) (by kernel_rfl) (by kernel_rfl) (fun _ _ _ h => h) (Or.inl ⟨by kernel_rfl, fun _ _ => by kernel_rfl⟩) hH8 ?_
            change wpAnyH _ _ _ _ _ _ _ (Act.put _ (some 149) _) _
            simp only [Act.put, List.setIfInBounds_toArray, List.set_cons_zero, List.set_cons_succ]
            refine wpAnyH_take (i := 40) (v := (.agg #[Z1, Z2])) rfl (by kernel_rfl) (by kernel_rfl) (by kernel_rfl) (fun _ _ _ h => h) (Or.inl ⟨by kernel_rfl, ?y114⟩) hH8 ?r114
            case y114 => (intro w0 hS0; (try dsimp only at hS0); go_simp)
            change wpAnyH _ _ _ _ _ _ _ (Act.put _ (some 150) _) _
            simp only [Act.put, List.setIfInBounds_toArray, List.set_cons_zero, List.set_cons_succ]
            refine wpAnyH_ready (rs := [41]) (by kernel_rfl) (by simp) ?_
            refine AllReadyH.cons rfl (fun K hK0 => ?_) AllReadyH.nil
            have hK := hK0.out
            clear hK0
            rw [if_pos (by kernel_rfl)]
            refine wp_go_call 22 #[(.agg #[Z1, Z2])] (fun _ => by kernel_rfl) ((sign_is _ z s 8 _ (by exact B8.iz) (by decide) (by exact HF.out.2.2) (by exact HN.out.2.2.2.2.2.2)).mono ?k115)
            rintro e w9 ⟨rfl, hb9⟩
            have B9 := B8.step hb9 rfl
            have bl9 := begun_then bl8 hb9 rfl rfl rfl rfl
            clear B8 bl8 hb9
            refine ⟨(.int .i64 s), rfl, hK _ _ (B9.cells) (fun hH9 => ?_)⟩
            clear hK K hH8
            change wpAnyH _ _ _ _ _ _ _ (Act.put _ (some 151) _) _
            simp only [Act.put, List.setIfInBounds_toArray, List.set_cons_zero, List.set_cons_succ]
            refine wpAnyH_take (i := 42) (v := (.bool true)) rfl (by kernel_rfl) (by kernel_rfl) (by kernel_rfl) (fun _ _ _ h => h) (Or.inl ⟨by kernel_rfl, fun w0 _ => Eq.trans (b := Result.ok (Next.value (.bool (decide ((0 : Int) < s)))) w0) (by kernel_rfl) (by rw [ds])⟩) hH9 ?_
            change wpAnyH _ _ _ _ _ _ _ (Act.put _ (some 152) _) _
            simp only [Act.put, List.setIfInBounds_toArray, List.set_cons_zero, List.set_cons_succ]
            refine wpAnyH_take (i := 43) (v := (.bool true)) rfl (by kernel_rfl) (by kernel_rfl) (by kernel_rfl) (fun _ _ _ h => h) (Or.inl ⟨by kernel_rfl, fun _ _ => by kernel_rfl⟩) hH9 ?_
            change wpAnyH _ _ _ _ _ _ _ (Act.put _ (some 153) _) _
            simp only [Act.put, List.setIfInBounds_toArray, List.set_cons_zero, List.set_cons_succ]
            refine wpAnyH_take (i := 44) (v := (.agg #[X1, X2])) rfl (by kernel_rfl) (by kernel_rfl) (by kernel_rfl) (fun _ _ _ h => h) (Or.inl ⟨by kernel_rfl, ?y116⟩) hH9 ?r116
            case y116 => (intro w0 hS0; (try dsimp only at hS0); go_simp)
            change wpAnyH _ _ _ _ _ _ _ (Act.put _ (some 154) _) _
            simp only [Act.put, List.setIfInBounds_toArray, List.set_cons_zero, List.set_cons_succ]
            refine wpAnyH_take (i := 45) (v := (.agg #[Z1, Z2])) rfl (by kernel_rfl) (by kernel_rfl) (by kernel_rfl) (fun _ _ _ h => h) (Or.inl ⟨by kernel_rfl, ?y117⟩) hH9 ?r117
            case y117 => (intro w0 hS0; (try dsimp only at hS0); go_simp)
            change wpAnyH _ _ _ _ _ _ _ (Act.put _ (some 155) _) _
            simp only [Act.put, List.setIfInBounds_toArray, List.set_cons_zero, List.set_cons_succ]
            refine wpAnyH_take (i := 47) (v := (.agg #[Y1, Y2])) rfl (by kernel_rfl) (by kernel_rfl) (by kernel_rfl) (fun _ _ _ h => h) (Or.inl ⟨by kernel_rfl, ?y118⟩) hH9 ?r118
            case y118 => (intro w0 hS0; (try dsimp only at hS0); go_simp)
            change wpAnyH _ _ _ _ _ _ _ (Act.put _ (some 157) _) _
            simp only [Act.put, List.setIfInBounds_toArray, List.set_cons_zero, List.set_cons_succ]
            refine wpAnyH_take (i := 48) (v := (.agg #[Z1, Z2])) rfl (by kernel_rfl) (by kernel_rfl) (by kernel_rfl) (fun _ _ _ h => h) (Or.inl ⟨by kernel_rfl, ?y119⟩) hH9 ?r119
            case y119 => (intro w0 hS0; (try dsimp only at hS0); go_simp)
            change wpAnyH _ _ _ _ _ _ _ (Act.put _ (some 158) _) _
            simp only [Act.put, List.setIfInBounds_toArray, List.set_cons_zero, List.set_cons_succ]
            refine wpAnyH_take (i := 51) (v := (.agg #[X1, X2])) rfl (by kernel_rfl) (by kernel_rfl) (by kernel_rfl) (fun _ _ _ h => h) (Or.inl ⟨by kernel_rfl, ?y120⟩) hH9 ?r120
            case y120 => (intro w0 hS0; (try dsimp only at hS0); go_simp)
            change wpAnyH _ _ _ _ _ _ _ (Act.put _ (some 161) _) _
            simp only [Act.put, List.setIfInBounds_toArray, List.set_cons_zero, List.set_cons_succ]
            refine wpAnyH_take (i := 52) (v := (.agg #[Y1, Y2])) rfl (by kernel_rfl) (by kernel_rfl) (by kernel_rfl) (fun _ _ _ h => h) (Or.inl ⟨by kernel_rfl, ?y121⟩) hH9 ?r121
            case y121 => (intro w0 hS0; (try dsimp only at hS0); go_simp)
            change wpAnyH _ _ _ _ _ _ _ (Act.put _ (some 162) _) _
            simp only [Act.put, List.setIfInBounds_toArray, List.set_cons_zero, List.set_cons_succ]
            refine wpAnyH_ready (rs := [46]) (by kernel_rfl) (by simp) ?_
            refine AllReadyH.cons rfl (fun K hK0 => ?_) AllReadyH.nil
            have hK := hK0.out
            clear hK0
            rw [if_pos (by kernel_rfl)]
            refine wp_go_call 42 #[(.agg #[X1, X2]), (.agg #[Z1, Z2])] (fun _ => by kernel_rfl) ((Mul_small _ _ x z 8 8 _ (by exact B9.ix) (by exact B9.iz) (by decide) (by exact HF.out.1) (by decide) (by exact HF.out.2.2)).mono ?k122)
            rintro e w10 ⟨v10, rfl, i10_10, hb10⟩
            have B10 := B9.step hb10 rfl
            have bl10 := begun_then bl9 hb10 rfl rfl rfl rfl
            clear B9 bl9 hb10
            refine ⟨v10, rfl, hK _ _ (B10.cells) (fun hH10 => ?_)⟩
            clear hK K hH9
            change wpAnyH _ _ _ _ _ _ _ (Act.put _ (some 156) _) _
            simp only [Act.put, List.setIfInBounds_toArray, List.set_cons_zero, List.set_cons_succ]
            refine wpAnyH_ready (rs := [49]) (by kernel_rfl) (by simp) ?_
            refine AllReadyH.cons rfl (fun K hK0 => ?_) AllReadyH.nil
            have hK := hK0.out
            clear hK0
            rw [if_pos (by kernel_rfl)]
            refine wp_go_call 42 #[(.agg #[Y1, Y2]), (.agg #[Z1, Z2])] (fun _ => by kernel_rfl) ((Mul_small _ _ y z 8 8 _ (by exact B10.iy) (by exact B10.iz) (by decide) (by exact HF.out.2.1) (by decide) (by exact HF.out.2.2)).mono ?k123)
            rintro e w11 ⟨v11, rfl, i11_11, hb11⟩
            have B11 := B10.step hb11 rfl
            have bl11 := begun_then bl10 hb11 rfl rfl rfl rfl
            have i10_11 := i10_10.step hb11 rfl
            clear B10 bl10 hb11 i10_10
            refine ⟨v11, rfl, hK _ _ (B11.cells) (fun hH11 => ?_)⟩
            clear hK K hH10
            change wpAnyH _ _ _ _ _ _ _ (Act.put _ (some 159) _) _
            simp only [Act.put, List.setIfInBounds_toArray, List.set_cons_zero, List.set_cons_succ]
            refine wpAnyH_ready (rs := [50]) (by kernel_rfl) (by simp) ?_
            refine AllReadyH.cons rfl (fun K hK0 => ?_) AllReadyH.nil
            have hK := hK0.out
            clear hK0
            rw [if_pos (by kernel_rfl)]
            refine wp_go_call 32 #[v10, v11] (fun _ => by kernel_rfl) ((cmp_is _ _ (x * z) (y * z) p 16 _ (by exact i10_11) (by exact i11_11) (by decide) (by exact (HF.out.1.mul HF.out.2.2)) (by exact (HF.out.2.1.mul HF.out.2.2)) (by exact HN.out.2.2.2.2.2.1)).mono ?k124)
            rintro e w12 ⟨rfl, hb12⟩
            have B12 := B11.step hb12 rfl
            have bl12 := begun_then bl11 hb12 rfl rfl rfl rfl
            clear B11 bl11 hb12 i10_11 i11_11
            refine ⟨(.int .i64 p), rfl, hK _ _ (B12.cells) (fun hH12 => ?_)⟩
            clear hK K hH11
            change wpAnyH _ _ _ _ _ _ _ (Act.put _ (some 160) _) _
            simp only [Act.put, List.setIfInBounds_toArray, List.set_cons_zero, List.set_cons_succ]
            refine wpAnyH_ready (rs := [53]) (by kernel_rfl) (by simp) ?_
            refine AllReadyH.cons rfl (fun K hK0 => ?_) AllReadyH.nil
            have hK := hK0.out
            clear hK0
            rw [if_pos (by kernel_rfl)]
            refine wp_go_call 32 #[(.agg #[X1, X2]), (.agg #[Y1, Y2])] (fun _ => by kernel_rfl) ((cmp_is _ _ x y p 8 _ (by exact B12.ix) (by exact B12.iy) (by decide) (by exact HF.out.1) (by exact HF.out.2.1) (by exact HN.out.1)).mono ?k125)
            rintro e w13 ⟨rfl, hb13⟩
            have B13 := B12.step hb13 rfl
            have bl13 := begun_then bl12 hb13 rfl rfl rfl rfl
            clear B12 bl12 hb13
            refine ⟨(.int .i64 p), rfl, hK _ _ (B13.cells) (fun hH13 => ?_)⟩
            clear hK K hH12
            change wpAnyH _ _ _ _ _ _ _ (Act.put _ (some 163) _) _
            simp only [Act.put, List.setIfInBounds_toArray, List.set_cons_zero, List.set_cons_succ]
            refine wpAnyH_take (i := 54) (v := (.bool false)) rfl (by kernel_rfl) (by kernel_rfl) (by kernel_rfl) (fun _ _ _ h => h) (Or.inl ⟨by kernel_rfl, fun w0 _ => Eq.trans (b := Result.ok (Next.value (.bool (p != p))) w0) (by kernel_rfl) (by rw [hne])⟩) hH13 ?_
            change wpAnyH _ _ _ _ _ _ _ (Act.put _ (some 164) _) _
            simp only [Act.put, List.setIfInBounds_toArray, List.set_cons_zero, List.set_cons_succ]
            refine wpAnyH_take (i := 55) (v := (.bool false)) rfl (by kernel_rfl) (by kernel_rfl) (by kernel_rfl) (fun _ _ _ h => h) (Or.inl ⟨by kernel_rfl, fun _ _ => by kernel_rfl⟩) hH13 ?_
            change wpAnyH _ _ _ _ _ _ _ (Act.put _ (some 165) _) _
            simp only [Act.put, List.setIfInBounds_toArray, List.set_cons_zero, List.set_cons_succ]
            refine wpAnyH_take (i := 56) (v := (.bool false)) rfl (by kernel_rfl) (by kernel_rfl) (by kernel_rfl) (fun _ _ _ h => h) (Or.inl ⟨by kernel_rfl, fun _ _ => by kernel_rfl⟩) hH13 ?_
            change wpAnyH _ _ _ _ _ _ _ (Act.put _ (some 166) _) _
            simp only [Act.put, List.setIfInBounds_toArray, List.set_cons_zero, List.set_cons_succ]
            refine wpAnyH_done (by kernel_rfl) ?_ _
            go_wp2_with fail
            go_meet
            exact ⟨rfl, B13, bl13⟩
          · as_aux_lemma =>
            have HN := Lib.hid (N0.pos hs)
            have hw2 := N0.wrap3
            clear N0
            have ds : decide ((0 : Int) < s) = true := by exact decide_eq_true hs
            have dp : decide (p ≤ (0 : Int)) = true := by exact decide_eq_true hp
            have dq : decide (q ≤ (0 : Int)) = true := by exact decide_eq_true hq
            have dr : decide ((0 : Int) < r) = false := by exact decide_eq_false (by omega)
            have hne : (p != p) = false := bne_self_eq_false p
            refine wp_region_held_drew (S := (fun w' => w'.cell? ⟨r8, 0, none⟩ = some X1 ∧ w'.cell? ⟨r8, 1, none⟩ = some X2 ∧ w'.cell? ⟨r9, 0, none⟩ = some Y1 ∧ w'.cell? ⟨r9, 1, none⟩ = some Y2 ∧ w'.cell? ⟨r10, 0, none⟩ = some Z1 ∧ w'.cell? ⟨r10, 1, none⟩ = some Z2)) (by kernel_rfl) (Bs.cells) (fun hH0 => ?_)
            refine wpAnyH_take (i := 0) (v := (.agg #[X1, X2])) rfl (by kernel_rfl) (by kernel_rfl) (by kernel_rfl) (fun _ _ _ h => h) (Or.inl ⟨by kernel_rfl, ?y126⟩) hH0 ?r126
            case y126 => (intro w0 hS0; (try dsimp only at hS0); go_simp)
            change wpAnyH _ _ _ _ _ _ _ (Act.put _ (some 110) _) _
            simp only [Act.put, List.setIfInBounds_toArray, List.set_cons_zero, List.set_cons_succ]
            refine wpAnyH_take (i := 1) (v := (.agg #[Y1, Y2])) rfl (by kernel_rfl) (by kernel_rfl) (by kernel_rfl) (fun _ _ _ h => h) (Or.inl ⟨by kernel_rfl, ?y127⟩) hH0 ?r127
            case y127 => (intro w0 hS0; (try dsimp only at hS0); go_simp)
            change wpAnyH _ _ _ _ _ _ _ (Act.put _ (some 111) _) _
            simp only [Act.put, List.setIfInBounds_toArray, List.set_cons_zero, List.set_cons_succ]
            refine wpAnyH_take (i := 3) (v := (.agg #[Y1, Y2])) rfl (by kernel_rfl) (by kernel_rfl) (by kernel_rfl) (fun _ _ _ h => h) (Or.inl ⟨by kernel_rfl, ?y128⟩) hH0 ?r128
            case y128 => (intro w0 hS0; (try dsimp only at hS0); go_simp)
            change wpAnyH _ _ _ _ _ _ _ (Act.put _ (some 113) _) _
            simp only [Act.put, List.setIfInBounds_toArray, List.set_cons_zero, List.set_cons_succ]
            refine wpAnyH_take (i := 4) (v := (.agg #[X1, X2])) rfl (by kernel_rfl) (by kernel_rfl) (by kernel_rfl) (fun _ _ _ h => h) (Or.inl ⟨by kernel_rfl, ?y129⟩) hH0 ?r129
            case y129 => (intro w0 hS0; (try dsimp only at hS0); go_simp)
            change wpAnyH _ _ _ _ _ _ _ (Act.put _ (some 114) _) _
            simp only [Act.put, List.setIfInBounds_toArray, List.set_cons_zero, List.set_cons_succ]
            refine wpAnyH_ready (rs := [2]) (by kernel_rfl) (by simp) ?_
            refine AllReadyH.cons rfl (fun K hK0 => ?_) AllReadyH.nil
            have hK := hK0.out
            clear hK0
            rw [if_pos (by kernel_rfl)]
            refine wp_go_call 32 #[(.agg #[X1, X2]), (.agg #[Y1, Y2])] (fun _ => by kernel_rfl) ((cmp_is _ _ x y p 8 _ (by exact Bs.ix) (by exact Bs.iy) (by decide) (by exact HF.out.1) (by exact HF.out.2.1) (by exact HN.out.1)).mono ?k130)
            rintro e w1 ⟨rfl, hb1⟩
            have B1 := Bs.step hb1 rfl
            have bl1 := begun_then bls hb1 rfl rfl rfl rfl
            clear Bs bls hb1
            refine ⟨(.int .i64 p), rfl, hK _ _ (B1.cells) (fun hH1 => ?_)⟩
            clear hK K hH0
            change wpAnyH _ _ _ _ _ _ _ (Act.put _ (some 112) _) _
            simp only [Act.put, List.setIfInBounds_toArray, List.set_cons_zero, List.set_cons_succ]
            refine wpAnyH_ready (rs := [5]) (by kernel_rfl) (by simp) ?_
            refine AllReadyH.cons rfl (fun K hK0 => ?_) AllReadyH.nil
            have hK := hK0.out
            clear hK0
            rw [if_pos (by kernel_rfl)]
            refine wp_go_call 32 #[(.agg #[Y1, Y2]), (.agg #[X1, X2])] (fun _ => by kernel_rfl) ((cmp_is _ _ y x (-p) 8 _ (by exact B1.iy) (by exact B1.ix) (by decide) (by exact HF.out.2.1) (by exact HF.out.1) (by exact HN.out.2.1)).mono ?k131)
            rintro e w2 ⟨rfl, hb2⟩
            have B2 := B1.step hb2 rfl
            have bl2 := begun_then bl1 hb2 rfl rfl rfl rfl
            clear B1 bl1 hb2
            refine ⟨(.int .i64 (-p)), rfl, hK _ _ (B2.cells) (fun hH2 => ?_)⟩
            clear hK K hH1
            change wpAnyH _ _ _ _ _ _ _ (Act.put _ (some 115) _) _
            simp only [Act.put, List.setIfInBounds_toArray, List.set_cons_zero, List.set_cons_succ]
            refine wpAnyH_take (i := 6) (v := (.int .i64 p)) rfl (by kernel_rfl) (by kernel_rfl) (by kernel_rfl) (fun _ _ _ h => h) (Or.inl ⟨by kernel_rfl, fun w0 _ => Eq.trans (b := Result.ok (Next.value (.int .i64 (IntKind.i64.wrap (0 - -p)))) w0) (by kernel_rfl) (by rw [hw2])⟩) hH2 ?_
            change wpAnyH _ _ _ _ _ _ _ (Act.put _ (some 116) _) _
            simp only [Act.put, List.setIfInBounds_toArray, List.set_cons_zero, List.set_cons_succ]
            refine wpAnyH_take (i := 7) (v := (.bool false)) rfl (by kernel_rfl) (by kernel_rfl) (by kernel_rfl) (fun _ _ _ h => h) (Or.inl ⟨by kernel_rfl, fun w0 _ => Eq.trans (b := Result.ok (Next.value (.bool (p != p))) w0) (by kernel_rfl) (by rw [hne])⟩) hH2 ?_
            change wpAnyH _ _ _ _ _ _ _ (Act.put _ (some 117) _) _
            simp only [Act.put, List.setIfInBounds_toArray, List.set_cons_zero, List.set_cons_succ]
            refine wpAnyH_take (i := 8) (v := (.bool false)) rfl (by kernel_rfl) (by kernel_rfl) (by kernel_rfl) (fun _ _ _ h => h) (Or.inl ⟨by kernel_rfl, fun _ _ => by kernel_rfl⟩) hH2 ?_
            change wpAnyH _ _ _ _ _ _ _ (Act.put _ (some 118) _) _
            simp only [Act.put, List.setIfInBounds_toArray, List.set_cons_zero, List.set_cons_succ]
            refine wpAnyH_take (i := 9) (v := (.agg #[X1, X2])) rfl (by kernel_rfl) (by kernel_rfl) (by kernel_rfl) (fun _ _ _ h => h) (Or.inl ⟨by kernel_rfl, ?y132⟩) hH2 ?r132
            case y132 => (intro w0 hS0; (try dsimp only at hS0); go_simp)
            change wpAnyH _ _ _ _ _ _ _ (Act.put _ (some 119) _) _
            simp only [Act.put, List.setIfInBounds_toArray, List.set_cons_zero, List.set_cons_succ]
            refine wpAnyH_take (i := 10) (v := (.agg #[Y1, Y2])) rfl (by kernel_rfl) (by kernel_rfl) (by kernel_rfl) (fun _ _ _ h => h) (Or.inl ⟨by kernel_rfl, ?y133⟩) hH2 ?r133
            case y133 => (intro w0 hS0; (try dsimp only at hS0); go_simp)
            change wpAnyH _ _ _ _ _ _ _ (Act.put _ (some 120) _) _
            simp only [Act.put, List.setIfInBounds_toArray, List.set_cons_zero, List.set_cons_succ]
            refine wpAnyH_ready (rs := [11]) (by kernel_rfl) (by simp) ?_
            refine AllReadyH.cons rfl (fun K hK0 => ?_) AllReadyH.nil
            have hK := hK0.out
            clear hK0
            rw [if_pos (by kernel_rfl)]
            refine wp_go_call 32 #[(.agg #[X1, X2]), (.agg #[Y1, Y2])] (fun _ => by kernel_rfl) ((cmp_is _ _ x y p 8 _ (by exact B2.ix) (by exact B2.iy) (by decide) (by exact HF.out.1) (by exact HF.out.2.1) (by exact HN.out.1)).mono ?k134)
            rintro e w3 ⟨rfl, hb3⟩
            have B3 := B2.step hb3 rfl
            have bl3 := begun_then bl2 hb3 rfl rfl rfl rfl
            clear B2 bl2 hb3
            refine ⟨(.int .i64 p), rfl, hK _ _ (B3.cells) (fun hH3 => ?_)⟩
            clear hK K hH2
            change wpAnyH _ _ _ _ _ _ _ (Act.put _ (some 121) _) _
            simp only [Act.put, List.setIfInBounds_toArray, List.set_cons_zero, List.set_cons_succ]
            refine wpAnyH_take (i := 12) (v := (.bool true)) rfl (by kernel_rfl) (by kernel_rfl) (by kernel_rfl) (fun _ _ _ h => h) (Or.inl ⟨by kernel_rfl, fun w0 _ => Eq.trans (b := Result.ok (Next.value (.bool (decide (p ≤ (0 : Int))))) w0) (by kernel_rfl) (by rw [dp])⟩) hH3 ?_
            change wpAnyH _ _ _ _ _ _ _ (Act.put _ (some 122) _) _
            simp only [Act.put, List.setIfInBounds_toArray, List.set_cons_zero, List.set_cons_succ]
            refine wpAnyH_take (i := 13) (v := (.bool true)) rfl (by kernel_rfl) (by kernel_rfl) (by kernel_rfl) (fun _ _ _ h => h) (Or.inl ⟨by kernel_rfl, fun _ _ => by kernel_rfl⟩) hH3 ?_
            change wpAnyH _ _ _ _ _ _ _ (Act.put _ (some 123) _) _
            simp only [Act.put, List.setIfInBounds_toArray, List.set_cons_zero, List.set_cons_succ]
            refine wpAnyH_take (i := 14) (v := (.agg #[Y1, Y2])) rfl (by kernel_rfl) (by kernel_rfl) (by kernel_rfl) (fun _ _ _ h => h) (Or.inl ⟨by kernel_rfl, ?y135⟩) hH3 ?r135
            case y135 => (intro w0 hS0; (try dsimp only at hS0); go_simp)
            change wpAnyH _ _ _ _ _ _ _ (Act.put _ (some 124) _) _
            simp only [Act.put, List.setIfInBounds_toArray, List.set_cons_zero, List.set_cons_succ]
            refine wpAnyH_take (i := 15) (v := (.agg #[Z1, Z2])) rfl (by kernel_rfl) (by kernel_rfl) (by kernel_rfl) (fun _ _ _ h => h) (Or.inl ⟨by kernel_rfl, ?y136⟩) hH3 ?r136
            case y136 => (intro w0 hS0; (try dsimp only at hS0); go_simp)
            change wpAnyH _ _ _ _ _ _ _ (Act.put _ (some 125) _) _
            simp only [Act.put, List.setIfInBounds_toArray, List.set_cons_zero, List.set_cons_succ]
            refine wpAnyH_ready (rs := [16]) (by kernel_rfl) (by simp) ?_
            refine AllReadyH.cons rfl (fun K hK0 => ?_) AllReadyH.nil
            have hK := hK0.out
            clear hK0
            rw [if_pos (by kernel_rfl)]
            refine wp_go_call 32 #[(.agg #[Y1, Y2]), (.agg #[Z1, Z2])] (fun _ => by kernel_rfl) ((cmp_is _ _ y z q 8 _ (by exact B3.iy) (by exact B3.iz) (by decide) (by exact HF.out.2.1) (by exact HF.out.2.2) (by exact HN.out.2.2.1)).mono ?k137)
            rintro e w4 ⟨rfl, hb4⟩
            have B4 := B3.step hb4 rfl
            have bl4 := begun_then bl3 hb4 rfl rfl rfl rfl
            clear B3 bl3 hb4
            refine ⟨(.int .i64 q), rfl, hK _ _ (B4.cells) (fun hH4 => ?_)⟩
            clear hK K hH3
            change wpAnyH _ _ _ _ _ _ _ (Act.put _ (some 126) _) _
            simp only [Act.put, List.setIfInBounds_toArray, List.set_cons_zero, List.set_cons_succ]
            refine wpAnyH_take (i := 17) (v := (.bool true)) rfl (by kernel_rfl) (by kernel_rfl) (by kernel_rfl) (fun _ _ _ h => h) (Or.inl ⟨by kernel_rfl, fun w0 _ => Eq.trans (b := Result.ok (Next.value (.bool (decide (q ≤ (0 : Int))))) w0) (by kernel_rfl) (by rw [dq])⟩) hH4 ?_
            change wpAnyH _ _ _ _ _ _ _ (Act.put _ (some 127) _) _
            simp only [Act.put, List.setIfInBounds_toArray, List.set_cons_zero, List.set_cons_succ]
            refine wpAnyH_take (i := 18) (v := (.bool true)) rfl (by kernel_rfl) (by kernel_rfl) (by kernel_rfl) (fun _ _ _ h => h) (Or.inl ⟨by kernel_rfl, fun _ _ => by kernel_rfl⟩) hH4 ?_
            change wpAnyH _ _ _ _ _ _ _ (Act.put _ (some 128) _) _
            simp only [Act.put, List.setIfInBounds_toArray, List.set_cons_zero, List.set_cons_succ]
            refine wpAnyH_take (i := 19) (v := (.bool true)) rfl (by kernel_rfl) (by kernel_rfl) (by kernel_rfl) (fun _ _ _ h => h) (Or.inl ⟨by kernel_rfl, fun _ _ => by kernel_rfl⟩) hH4 ?_
            change wpAnyH _ _ _ _ _ _ _ (Act.put _ (some 129) _) _
            simp only [Act.put, List.setIfInBounds_toArray, List.set_cons_zero, List.set_cons_succ]
            refine wpAnyH_take (i := 20) (v := (.agg #[X1, X2])) rfl (by kernel_rfl) (by kernel_rfl) (by kernel_rfl) (fun _ _ _ h => h) (Or.inl ⟨by kernel_rfl, ?y138⟩) hH4 ?r138
            case y138 => (intro w0 hS0; (try dsimp only at hS0); go_simp)
            change wpAnyH _ _ _ _ _ _ _ (Act.put _ (some 130) _) _
            simp only [Act.put, List.setIfInBounds_toArray, List.set_cons_zero, List.set_cons_succ]
            refine wpAnyH_take (i := 21) (v := (.agg #[Z1, Z2])) rfl (by kernel_rfl) (by kernel_rfl) (by kernel_rfl) (fun _ _ _ h => h) (Or.inl ⟨by kernel_rfl, ?y139⟩) hH4 ?r139
            case y139 => (intro w0 hS0; (try dsimp only at hS0); go_simp)
            change wpAnyH _ _ _ _ _ _ _ (Act.put _ (some 131) _) _
            simp only [Act.put, List.setIfInBounds_toArray, List.set_cons_zero, List.set_cons_succ]
            refine wpAnyH_ready (rs := [22]) (by kernel_rfl) (by simp) ?_
            refine AllReadyH.cons rfl (fun K hK0 => ?_) AllReadyH.nil
            have hK := hK0.out
            clear hK0
            rw [if_pos (by kernel_rfl)]
            refine wp_go_call 32 #[(.agg #[X1, X2]), (.agg #[Z1, Z2])] (fun _ => by kernel_rfl) ((cmp_is _ _ x z r 8 _ (by exact B4.ix) (by exact B4.iz) (by decide) (by exact HF.out.1) (by exact HF.out.2.2) (by exact HN.out.2.2.2.1)).mono ?k140)
            rintro e w5 ⟨rfl, hb5⟩
            have B5 := B4.step hb5 rfl
            have bl5 := begun_then bl4 hb5 rfl rfl rfl rfl
            clear B4 bl4 hb5
            refine ⟨(.int .i64 r), rfl, hK _ _ (B5.cells) (fun hH5 => ?_)⟩
            clear hK K hH4
            change wpAnyH _ _ _ _ _ _ _ (Act.put _ (some 132) _) _
            simp only [Act.put, List.setIfInBounds_toArray, List.set_cons_zero, List.set_cons_succ]
            refine wpAnyH_take (i := 23) (v := (.bool false)) rfl (by kernel_rfl) (by kernel_rfl) (by kernel_rfl) (fun _ _ _ h => h) (Or.inl ⟨by kernel_rfl, fun w0 _ => Eq.trans (b := Result.ok (Next.value (.bool (decide ((0 : Int) < r)))) w0) (by kernel_rfl) (by rw [dr])⟩) hH5 ?_
            change wpAnyH _ _ _ _ _ _ _ (Act.put _ (some 133) _) _
            simp only [Act.put, List.setIfInBounds_toArray, List.set_cons_zero, List.set_cons_succ]
            refine wpAnyH_take (i := 24) (v := (.bool false)) rfl (by kernel_rfl) (by kernel_rfl) (by kernel_rfl) (fun _ _ _ h => h) (Or.inl ⟨by kernel_rfl, fun _ _ => by kernel_rfl⟩) hH5 ?_
            change wpAnyH _ _ _ _ _ _ _ (Act.put _ (some 134) _) _
            simp only [Act.put, List.setIfInBounds_toArray, List.set_cons_zero, List.set_cons_succ]
            refine wpAnyH_take (i := 25) (v := (.bool false)) rfl (by kernel_rfl) (by kernel_rfl) (by kernel_rfl) (fun _ _ _ h => h) (Or.inl ⟨by kernel_rfl, fun _ _ => by kernel_rfl⟩) hH5 ?_
            change wpAnyH _ _ _ _ _ _ _ (Act.put _ (some 135) _) _
            simp only [Act.put, List.setIfInBounds_toArray, List.set_cons_zero, List.set_cons_succ]
            refine wpAnyH_take (i := 26) (v := (.bool false)) rfl (by kernel_rfl) (by kernel_rfl) (by kernel_rfl) (fun _ _ _ h => h) (Or.inl ⟨by kernel_rfl, fun _ _ => by kernel_rfl⟩) hH5 ?_
            change wpAnyH _ _ _ _ _ _ _ (Act.put _ (some 136) _) _
            simp only [Act.put, List.setIfInBounds_toArray, List.set_cons_zero, List.set_cons_succ]
            refine wpAnyH_take (i := 27) (v := (.agg #[X1, X2])) rfl (by kernel_rfl) (by kernel_rfl) (by kernel_rfl) (fun _ _ _ h => h) (Or.inl ⟨by kernel_rfl, ?y141⟩) hH5 ?r141
            case y141 => (intro w0 hS0; (try dsimp only at hS0); go_simp)
            change wpAnyH _ _ _ _ _ _ _ (Act.put _ (some 137) _) _
            simp only [Act.put, List.setIfInBounds_toArray, List.set_cons_zero, List.set_cons_succ]
            refine wpAnyH_take (i := 28) (v := (.agg #[Z1, Z2])) rfl (by kernel_rfl) (by kernel_rfl) (by kernel_rfl) (fun _ _ _ h => h) (Or.inl ⟨by kernel_rfl, ?y142⟩) hH5 ?r142
            case y142 => (intro w0 hS0; (try dsimp only at hS0); go_simp)
            change wpAnyH _ _ _ _ _ _ _ (Act.put _ (some 138) _) _
            simp only [Act.put, List.setIfInBounds_toArray, List.set_cons_zero, List.set_cons_succ]
            refine wpAnyH_take (i := 30) (v := (.agg #[Y1, Y2])) rfl (by kernel_rfl) (by kernel_rfl) (by kernel_rfl) (fun _ _ _ h => h) (Or.inl ⟨by kernel_rfl, ?y143⟩) hH5 ?r143
            case y143 => (intro w0 hS0; (try dsimp only at hS0); go_simp)
            change wpAnyH _ _ _ _ _ _ _ (Act.put _ (some 140) _) _
            simp only [Act.put, List.setIfInBounds_toArray, List.set_cons_zero, List.set_cons_succ]
            refine wpAnyH_take (i := 31) (v := (.agg #[Z1, Z2])) rfl (by kernel_rfl) (by kernel_rfl) (by kernel_rfl) (fun _ _ _ h => h) (Or.inl ⟨by kernel_rfl, ?y144⟩) hH5 ?r144
            case y144 => (intro w0 hS0; (try dsimp only at hS0); go_simp)
            change wpAnyH _ _ _ _ _ _ _ (Act.put _ (some 141) _) _
            simp only [Act.put, List.setIfInBounds_toArray, List.set_cons_zero, List.set_cons_succ]
            refine wpAnyH_take (i := 34) (v := (.agg #[X1, X2])) rfl (by kernel_rfl) (by kernel_rfl) (by kernel_rfl) (fun _ _ _ h => h) (Or.inl ⟨by kernel_rfl, ?y145⟩) hH5 ?r145
            case y145 => (intro w0 hS0; (try dsimp only at hS0); go_simp)
            change wpAnyH _ _ _ _ _ _ _ (Act.put _ (some 144) _) _
            simp only [Act.put, List.setIfInBounds_toArray, List.set_cons_zero, List.set_cons_succ]
            refine wpAnyH_take (i := 35) (v := (.agg #[Y1, Y2])) rfl (by kernel_rfl) (by kernel_rfl) (by kernel_rfl) (fun _ _ _ h => h) (Or.inl ⟨by kernel_rfl, ?y146⟩) hH5 ?r146
            case y146 => (intro w0 hS0; (try dsimp only at hS0); go_simp)
            change wpAnyH _ _ _ _ _ _ _ (Act.put _ (some 145) _) _
            simp only [Act.put, List.setIfInBounds_toArray, List.set_cons_zero, List.set_cons_succ]
            refine wpAnyH_ready (rs := [29]) (by kernel_rfl) (by simp) ?_
            refine AllReadyH.cons rfl (fun K hK0 => ?_) AllReadyH.nil
            have hK := hK0.out
            clear hK0
            rw [if_pos (by kernel_rfl)]
            refine wp_go_call 38 #[(.agg #[X1, X2]), (.agg #[Z1, Z2])] (fun _ => by kernel_rfl) ((Add_any _ _ x z 8 _ (by exact B5.ix) (by exact B5.iz) (by decide) (by exact HF.out.1) (by exact HF.out.2.2)).mono ?k147)
            rintro e w6 ⟨v6, rfl, i6_6, hb6⟩
            have B6 := B5.step hb6 rfl
            have bl6 := begun_then bl5 hb6 rfl rfl rfl rfl
            clear B5 bl5 hb6
            refine ⟨v6, rfl, hK _ _ (B6.cells) (fun hH6 => ?_)⟩
            clear hK K hH5
            change wpAnyH _ _ _ _ _ _ _ (Act.put _ (some 139) _) _
            simp only [Act.put, List.setIfInBounds_toArray, List.set_cons_zero, List.set_cons_succ]
            refine wpAnyH_ready (rs := [32]) (by kernel_rfl) (by simp) ?_
            refine AllReadyH.cons rfl (fun K hK0 => ?_) AllReadyH.nil
            have hK := hK0.out
            clear hK0
            rw [if_pos (by kernel_rfl)]
            refine wp_go_call 38 #[(.agg #[Y1, Y2]), (.agg #[Z1, Z2])] (fun _ => by kernel_rfl) ((Add_any _ _ y z 8 _ (by exact B6.iy) (by exact B6.iz) (by decide) (by exact HF.out.2.1) (by exact HF.out.2.2)).mono ?k148)
            rintro e w7 ⟨v7, rfl, i7_7, hb7⟩
            have B7 := B6.step hb7 rfl
            have bl7 := begun_then bl6 hb7 rfl rfl rfl rfl
            have i6_7 := i6_6.step hb7 rfl
            clear B6 bl6 hb7 i6_6
            refine ⟨v7, rfl, hK _ _ (B7.cells) (fun hH7 => ?_)⟩
            clear hK K hH6
            change wpAnyH _ _ _ _ _ _ _ (Act.put _ (some 142) _) _
            simp only [Act.put, List.setIfInBounds_toArray, List.set_cons_zero, List.set_cons_succ]
            refine wpAnyH_ready (rs := [33]) (by kernel_rfl) (by simp) ?_
            refine AllReadyH.cons rfl (fun K hK0 => ?_) AllReadyH.nil
            have hK := hK0.out
            clear hK0
            rw [if_pos (by kernel_rfl)]
            refine wp_go_call 32 #[v6, v7] (fun _ => by kernel_rfl) ((cmp_is _ _ (x + z) (y + z) p 9 _ (by exact i6_7) (by exact i7_7) (by decide) (by exact (HF.out.1.add HF.out.2.2)) (by exact (HF.out.2.1.add HF.out.2.2)) (by exact HN.out.2.2.2.2.1)).mono ?k149)
            rintro e w8 ⟨rfl, hb8⟩
            have B8 := B7.step hb8 rfl
            have bl8 := begun_then bl7 hb8 rfl rfl rfl rfl
            clear B7 bl7 hb8 i6_7 i7_7
            refine ⟨(.int .i64 p), rfl, hK _ _ (B8.cells) (fun hH8 => ?_)⟩
            clear hK K hH7
            change wpAnyH _ _ _ _ _ _ _ (Act.put _ (some 143) _) _
            simp only [Act.put, List.setIfInBounds_toArray, List.set_cons_zero, List.set_cons_succ]
            refine wpAnyH_ready (rs := [36]) (by kernel_rfl) (by simp) ?_
            refine AllReadyH.cons rfl (fun K hK0 => ?_) AllReadyH.nil
            have hK := hK0.out
            clear hK0
            rw [if_pos (by kernel_rfl)]
            refine wp_go_call 32 #[(.agg #[X1, X2]), (.agg #[Y1, Y2])] (fun _ => by kernel_rfl) ((cmp_is _ _ x y p 8 _ (by exact B8.ix) (by exact B8.iy) (by decide) (by exact HF.out.1) (by exact HF.out.2.1) (by exact HN.out.1)).mono ?k150)
            rintro e w9 ⟨rfl, hb9⟩
            have B9 := B8.step hb9 rfl
            have bl9 := begun_then bl8 hb9 rfl rfl rfl rfl
            clear B8 bl8 hb9
            refine ⟨(.int .i64 p), rfl, hK _ _ (B9.cells) (fun hH9 => ?_)⟩
            clear hK K hH8
            change wpAnyH _ _ _ _ _ _ _ (Act.put _ (some 146) _) _
            simp only [Act.put, List.setIfInBounds_toArray, List.set_cons_zero, List.set_cons_succ]
            refine wpAnyH_take (i := 37) (v := (.bool false)) rfl (by kernel_rfl) (by kernel_rfl) (by kernel_rfl) (fun _ _ _ h => h) (Or.inl ⟨by kernel_rfl, fun w0 _ => Eq.trans (b := Result.ok (Next.value (.bool (p != p))) w0) (by kernel_rfl) (by rw [hne])⟩) hH9 ?_
            change wpAnyH _ _ _ _ _ _ _ (Act.put _ (some 147) _) _
            simp only [Act.put, List.setIfInBounds_toArray, List.set_cons_zero, List.set_cons_succ]
            refine wpAnyH_take (i := 38) (v := (.bool false)) rfl (by kernel_rfl) (by kernel_rfl) (by kernel_rfl) (fun _ _ _ h => h) (Or.inl ⟨by kernel_rfl, fun _ _ => by kernel_rfl⟩) hH9 ?_
            change wpAnyH _ _ _ _ _ _ _ (Act.put _ (some 148) _) _
            simp only [Act.put, List.setIfInBounds_toArray, List.set_cons_zero, List.set_cons_succ]
            refine wpAnyH_take (i := 39) (v := (.bool false)) rfl (by kernel_rfl) (by kernel_rfl) (by kernel_rfl) (fun _ _ _ h => h) (Or.inl ⟨by kernel_rfl, fun _ _ => by kernel_rfl⟩) hH9 ?_
            change wpAnyH _ _ _ _ _ _ _ (Act.put _ (some 149) _) _
            simp only [Act.put, List.setIfInBounds_toArray, List.set_cons_zero, List.set_cons_succ]
            refine wpAnyH_take (i := 40) (v := (.agg #[Z1, Z2])) rfl (by kernel_rfl) (by kernel_rfl) (by kernel_rfl) (fun _ _ _ h => h) (Or.inl ⟨by kernel_rfl, ?y151⟩) hH9 ?r151
            case y151 => (intro w0 hS0; (try dsimp only at hS0); go_simp)
            change wpAnyH _ _ _ _ _ _ _ (Act.put _ (some 150) _) _
            simp only [Act.put, List.setIfInBounds_toArray, List.set_cons_zero, List.set_cons_succ]
            refine wpAnyH_ready (rs := [41]) (by kernel_rfl) (by simp) ?_
            refine AllReadyH.cons rfl (fun K hK0 => ?_) AllReadyH.nil
            have hK := hK0.out
            clear hK0
            rw [if_pos (by kernel_rfl)]
            refine wp_go_call 22 #[(.agg #[Z1, Z2])] (fun _ => by kernel_rfl) ((sign_is _ z s 8 _ (by exact B9.iz) (by decide) (by exact HF.out.2.2) (by exact HN.out.2.2.2.2.2.2)).mono ?k152)
            rintro e w10 ⟨rfl, hb10⟩
            have B10 := B9.step hb10 rfl
            have bl10 := begun_then bl9 hb10 rfl rfl rfl rfl
            clear B9 bl9 hb10
            refine ⟨(.int .i64 s), rfl, hK _ _ (B10.cells) (fun hH10 => ?_)⟩
            clear hK K hH9
            change wpAnyH _ _ _ _ _ _ _ (Act.put _ (some 151) _) _
            simp only [Act.put, List.setIfInBounds_toArray, List.set_cons_zero, List.set_cons_succ]
            refine wpAnyH_take (i := 42) (v := (.bool true)) rfl (by kernel_rfl) (by kernel_rfl) (by kernel_rfl) (fun _ _ _ h => h) (Or.inl ⟨by kernel_rfl, fun w0 _ => Eq.trans (b := Result.ok (Next.value (.bool (decide ((0 : Int) < s)))) w0) (by kernel_rfl) (by rw [ds])⟩) hH10 ?_
            change wpAnyH _ _ _ _ _ _ _ (Act.put _ (some 152) _) _
            simp only [Act.put, List.setIfInBounds_toArray, List.set_cons_zero, List.set_cons_succ]
            refine wpAnyH_take (i := 43) (v := (.bool true)) rfl (by kernel_rfl) (by kernel_rfl) (by kernel_rfl) (fun _ _ _ h => h) (Or.inl ⟨by kernel_rfl, fun _ _ => by kernel_rfl⟩) hH10 ?_
            change wpAnyH _ _ _ _ _ _ _ (Act.put _ (some 153) _) _
            simp only [Act.put, List.setIfInBounds_toArray, List.set_cons_zero, List.set_cons_succ]
            refine wpAnyH_take (i := 44) (v := (.agg #[X1, X2])) rfl (by kernel_rfl) (by kernel_rfl) (by kernel_rfl) (fun _ _ _ h => h) (Or.inl ⟨by kernel_rfl, ?y153⟩) hH10 ?r153
            case y153 => (intro w0 hS0; (try dsimp only at hS0); go_simp)
            change wpAnyH _ _ _ _ _ _ _ (Act.put _ (some 154) _) _
            simp only [Act.put, List.setIfInBounds_toArray, List.set_cons_zero, List.set_cons_succ]
            refine wpAnyH_take (i := 45) (v := (.agg #[Z1, Z2])) rfl (by kernel_rfl) (by kernel_rfl) (by kernel_rfl) (fun _ _ _ h => h) (Or.inl ⟨by kernel_rfl, ?y154⟩) hH10 ?r154
            case y154 => (intro w0 hS0; (try dsimp only at hS0); go_simp)
            change wpAnyH _ _ _ _ _ _ _ (Act.put _ (some 155) _) _
            simp only [Act.put, List.setIfInBounds_toArray, List.set_cons_zero, List.set_cons_succ]
            refine wpAnyH_take (i := 47) (v := (.agg #[Y1, Y2])) rfl (by kernel_rfl) (by kernel_rfl) (by kernel_rfl) (fun _ _ _ h => h) (Or.inl ⟨by kernel_rfl, ?y155⟩) hH10 ?r155
            case y155 => (intro w0 hS0; (try dsimp only at hS0); go_simp)
            change wpAnyH _ _ _ _ _ _ _ (Act.put _ (some 157) _) _
            simp only [Act.put, List.setIfInBounds_toArray, List.set_cons_zero, List.set_cons_succ]
            refine wpAnyH_take (i := 48) (v := (.agg #[Z1, Z2])) rfl (by kernel_rfl) (by kernel_rfl) (by kernel_rfl) (fun _ _ _ h => h) (Or.inl ⟨by kernel_rfl, ?y156⟩) hH10 ?r156
            case y156 => (intro w0 hS0; (try dsimp only at hS0); go_simp)
            change wpAnyH _ _ _ _ _ _ _ (Act.put _ (some 158) _) _
            simp only [Act.put, List.setIfInBounds_toArray, List.set_cons_zero, List.set_cons_succ]
            refine wpAnyH_take (i := 51) (v := (.agg #[X1, X2])) rfl (by kernel_rfl) (by kernel_rfl) (by kernel_rfl) (fun _ _ _ h => h) (Or.inl ⟨by kernel_rfl, ?y157⟩) hH10 ?r157
            case y157 => (intro w0 hS0; (try dsimp only at hS0); go_simp)
            change wpAnyH _ _ _ _ _ _ _ (Act.put _ (some 161) _) _
            simp only [Act.put, List.setIfInBounds_toArray, List.set_cons_zero, List.set_cons_succ]
            refine wpAnyH_take (i := 52) (v := (.agg #[Y1, Y2])) rfl (by kernel_rfl) (by kernel_rfl) (by kernel_rfl) (fun _ _ _ h => h) (Or.inl ⟨by kernel_rfl, ?y158⟩) hH10 ?r158
            case y158 => (intro w0 hS0; (try dsimp only at hS0); go_simp)
            change wpAnyH _ _ _ _ _ _ _ (Act.put _ (some 162) _) _
            simp only [Act.put, List.setIfInBounds_toArray, List.set_cons_zero, List.set_cons_succ]
            refine wpAnyH_ready (rs := [46]) (by kernel_rfl) (by simp) ?_
            refine AllReadyH.cons rfl (fun K hK0 => ?_) AllReadyH.nil
            have hK := hK0.out
            clear hK0
            rw [if_pos (by kernel_rfl)]
            refine wp_go_call 42 #[(.agg #[X1, X2]), (.agg #[Z1, Z2])] (fun _ => by kernel_rfl) ((Mul_small _ _ x z 8 8 _ (by exact B10.ix) (by exact B10.iz) (by decide) (by exact HF.out.1) (by decide) (by exact HF.out.2.2)).mono ?k159)
            rintro e w11 ⟨v11, rfl, i11_11, hb11⟩
            have B11 := B10.step hb11 rfl
            have bl11 := begun_then bl10 hb11 rfl rfl rfl rfl
            clear B10 bl10 hb11
            refine ⟨v11, rfl, hK _ _ (B11.cells) (fun hH11 => ?_)⟩
            clear hK K hH10
            change wpAnyH _ _ _ _ _ _ _ (Act.put _ (some 156) _) _
            simp only [Act.put, List.setIfInBounds_toArray, List.set_cons_zero, List.set_cons_succ]
            refine wpAnyH_ready (rs := [49]) (by kernel_rfl) (by simp) ?_
            refine AllReadyH.cons rfl (fun K hK0 => ?_) AllReadyH.nil
            have hK := hK0.out
            clear hK0
            rw [if_pos (by kernel_rfl)]
            refine wp_go_call 42 #[(.agg #[Y1, Y2]), (.agg #[Z1, Z2])] (fun _ => by kernel_rfl) ((Mul_small _ _ y z 8 8 _ (by exact B11.iy) (by exact B11.iz) (by decide) (by exact HF.out.2.1) (by decide) (by exact HF.out.2.2)).mono ?k160)
            rintro e w12 ⟨v12, rfl, i12_12, hb12⟩
            have B12 := B11.step hb12 rfl
            have bl12 := begun_then bl11 hb12 rfl rfl rfl rfl
            have i11_12 := i11_11.step hb12 rfl
            clear B11 bl11 hb12 i11_11
            refine ⟨v12, rfl, hK _ _ (B12.cells) (fun hH12 => ?_)⟩
            clear hK K hH11
            change wpAnyH _ _ _ _ _ _ _ (Act.put _ (some 159) _) _
            simp only [Act.put, List.setIfInBounds_toArray, List.set_cons_zero, List.set_cons_succ]
            refine wpAnyH_ready (rs := [50]) (by kernel_rfl) (by simp) ?_
            refine AllReadyH.cons rfl (fun K hK0 => ?_) AllReadyH.nil
            have hK := hK0.out
            clear hK0
            rw [if_pos (by kernel_rfl)]
            refine wp_go_call 32 #[v11, v12] (fun _ => by kernel_rfl) ((cmp_is _ _ (x * z) (y * z) p 16 _ (by exact i11_12) (by exact i12_12) (by decide) (by exact (HF.out.1.mul HF.out.2.2)) (by exact (HF.out.2.1.mul HF.out.2.2)) (by exact HN.out.2.2.2.2.2.1)).mono ?k161)
            rintro e w13 ⟨rfl, hb13⟩
            have B13 := B12.step hb13 rfl
            have bl13 := begun_then bl12 hb13 rfl rfl rfl rfl
            clear B12 bl12 hb13 i11_12 i12_12
            refine ⟨(.int .i64 p), rfl, hK _ _ (B13.cells) (fun hH13 => ?_)⟩
            clear hK K hH12
            change wpAnyH _ _ _ _ _ _ _ (Act.put _ (some 160) _) _
            simp only [Act.put, List.setIfInBounds_toArray, List.set_cons_zero, List.set_cons_succ]
            refine wpAnyH_ready (rs := [53]) (by kernel_rfl) (by simp) ?_
            refine AllReadyH.cons rfl (fun K hK0 => ?_) AllReadyH.nil
            have hK := hK0.out
            clear hK0
            rw [if_pos (by kernel_rfl)]
            refine wp_go_call 32 #[(.agg #[X1, X2]), (.agg #[Y1, Y2])] (fun _ => by kernel_rfl) ((cmp_is _ _ x y p 8 _ (by exact B13.ix) (by exact B13.iy) (by decide) (by exact HF.out.1) (by exact HF.out.2.1) (by exact HN.out.1)).mono ?k162)
            rintro e w14 ⟨rfl, hb14⟩
            have B14 := B13.step hb14 rfl
            have bl14 := begun_then bl13 hb14 rfl rfl rfl rfl
            clear B13 bl13 hb14
            refine ⟨(.int .i64 p), rfl, hK _ _ (B14.cells) (fun hH14 => ?_)⟩
            clear hK K hH13
            change wpAnyH _ _ _ _ _ _ _ (Act.put _ (some 163) _) _
            simp only [Act.put, List.setIfInBounds_toArray, List.set_cons_zero, List.set_cons_succ]
            refine wpAnyH_take (i := 54) (v := (.bool false)) rfl (by kernel_rfl) (by kernel_rfl) (by kernel_rfl) (fun _ _ _ h => h) (Or.inl ⟨by kernel_rfl, fun w0 _ => Eq.trans (b := Result.ok (Next.value (.bool (p != p))) w0) (by kernel_rfl) (by rw [hne])⟩) hH14 ?_
            change wpAnyH _ _ _ _ _ _ _ (Act.put _ (some 164) _) _
            simp only [Act.put, List.setIfInBounds_toArray, List.set_cons_zero, List.set_cons_succ]
            refine wpAnyH_take (i := 55) (v := (.bool false)) rfl (by kernel_rfl) (by kernel_rfl) (by kernel_rfl) (fun _ _ _ h => h) (Or.inl ⟨by kernel_rfl, fun _ _ => by kernel_rfl⟩) hH14 ?_
            change wpAnyH _ _ _ _ _ _ _ (Act.put _ (some 165) _) _
            simp only [Act.put, List.setIfInBounds_toArray, List.set_cons_zero, List.set_cons_succ]
            refine wpAnyH_take (i := 56) (v := (.bool false)) rfl (by kernel_rfl) (by kernel_rfl) (by kernel_rfl) (fun _ _ _ h => h) (Or.inl ⟨by kernel_rfl, fun _ _ => by kernel_rfl⟩) hH14 ?_
            change wpAnyH _ _ _ _ _ _ _ (Act.put _ (some 166) _) _
            simp only [Act.put, List.setIfInBounds_toArray, List.set_cons_zero, List.set_cons_succ]
            refine wpAnyH_done (by kernel_rfl) ?_ _
            go_wp2_with fail
            go_meet
            exact ⟨rfl, B14, bl14⟩
          · as_aux_lemma =>
            have HN := Lib.hid (N0.neg)
            have hw2 := N0.wrap3
            clear N0
            have ds : decide ((0 : Int) < s) = false := by exact decide_eq_false (by omega)
            have dp : decide (p ≤ (0 : Int)) = false := by exact decide_eq_false (by omega)
            have hne : (p != p) = false := bne_self_eq_false p
            refine wp_region_held_drew (S := (fun w' => w'.cell? ⟨r8, 0, none⟩ = some X1 ∧ w'.cell? ⟨r8, 1, none⟩ = some X2 ∧ w'.cell? ⟨r9, 0, none⟩ = some Y1 ∧ w'.cell? ⟨r9, 1, none⟩ = some Y2 ∧ w'.cell? ⟨r10, 0, none⟩ = some Z1 ∧ w'.cell? ⟨r10, 1, none⟩ = some Z2)) (by kernel_rfl) (Bs.cells) (fun hH0 => ?_)
            refine wpAnyH_take (i := 0) (v := (.agg #[X1, X2])) rfl (by kernel_rfl) (by kernel_rfl) (by kernel_rfl) (fun _ _ _ h => h) (Or.inl ⟨by kernel_rfl, ?y163⟩) hH0 ?r163
            case y163 => (intro w0 hS0; (try dsimp only at hS0); go_simp)
            change wpAnyH _ _ _ _ _ _ _ (Act.put _ (some 110) _) _
            simp only [Act.put, List.setIfInBounds_toArray, List.set_cons_zero, List.set_cons_succ]
            refine wpAnyH_take (i := 1) (v := (.agg #[Y1, Y2])) rfl (by kernel_rfl) (by kernel_rfl) (by kernel_rfl) (fun _ _ _ h => h) (Or.inl ⟨by kernel_rfl, ?y164⟩) hH0 ?r164
            case y164 => (intro w0 hS0; (try dsimp only at hS0); go_simp)
            change wpAnyH _ _ _ _ _ _ _ (Act.put _ (some 111) _) _
            simp only [Act.put, List.setIfInBounds_toArray, List.set_cons_zero, List.set_cons_succ]
            refine wpAnyH_take (i := 3) (v := (.agg #[Y1, Y2])) rfl (by kernel_rfl) (by kernel_rfl) (by kernel_rfl) (fun _ _ _ h => h) (Or.inl ⟨by kernel_rfl, ?y165⟩) hH0 ?r165
            case y165 => (intro w0 hS0; (try dsimp only at hS0); go_simp)
            change wpAnyH _ _ _ _ _ _ _ (Act.put _ (some 113) _) _
            simp only [Act.put, List.setIfInBounds_toArray, List.set_cons_zero, List.set_cons_succ]
            refine wpAnyH_take (i := 4) (v := (.agg #[X1, X2])) rfl (by kernel_rfl) (by kernel_rfl) (by kernel_rfl) (fun _ _ _ h => h) (Or.inl ⟨by kernel_rfl, ?y166⟩) hH0 ?r166
            case y166 => (intro w0 hS0; (try dsimp only at hS0); go_simp)
            change wpAnyH _ _ _ _ _ _ _ (Act.put _ (some 114) _) _
            simp only [Act.put, List.setIfInBounds_toArray, List.set_cons_zero, List.set_cons_succ]
            refine wpAnyH_ready (rs := [2]) (by kernel_rfl) (by simp) ?_
            refine AllReadyH.cons rfl (fun K hK0 => ?_) AllReadyH.nil
            have hK := hK0.out
            clear hK0
            rw [if_pos (by kernel_rfl)]
            refine wp_go_call 32 #[(.agg #[X1, X2]), (.agg #[Y1, Y2])] (fun _ => by kernel_rfl) ((cmp_is _ _ x y p 8 _ (by exact Bs.ix) (by exact Bs.iy) (by decide) (by exact HF.out.1) (by exact HF.out.2.1) (by exact HN.out.1)).mono ?k167)
            rintro e w1 ⟨rfl, hb1⟩
            have B1 := Bs.step hb1 rfl
            have bl1 := begun_then bls hb1 rfl rfl rfl rfl
            clear Bs bls hb1
            refine ⟨(.int .i64 p), rfl, hK _ _ (B1.cells) (fun hH1 => ?_)⟩
            clear hK K hH0
            change wpAnyH _ _ _ _ _ _ _ (Act.put _ (some 112) _) _
            simp only [Act.put, List.setIfInBounds_toArray, List.set_cons_zero, List.set_cons_succ]
            refine wpAnyH_ready (rs := [5]) (by kernel_rfl) (by simp) ?_
            refine AllReadyH.cons rfl (fun K hK0 => ?_) AllReadyH.nil
            have hK := hK0.out
            clear hK0
            rw [if_pos (by kernel_rfl)]
            refine wp_go_call 32 #[(.agg #[Y1, Y2]), (.agg #[X1, X2])] (fun _ => by kernel_rfl) ((cmp_is _ _ y x (-p) 8 _ (by exact B1.iy) (by exact B1.ix) (by decide) (by exact HF.out.2.1) (by exact HF.out.1) (by exact HN.out.2.1)).mono ?k168)
            rintro e w2 ⟨rfl, hb2⟩
            have B2 := B1.step hb2 rfl
            have bl2 := begun_then bl1 hb2 rfl rfl rfl rfl
            clear B1 bl1 hb2
            refine ⟨(.int .i64 (-p)), rfl, hK _ _ (B2.cells) (fun hH2 => ?_)⟩
            clear hK K hH1
            change wpAnyH _ _ _ _ _ _ _ (Act.put _ (some 115) _) _
            simp only [Act.put, List.setIfInBounds_toArray, List.set_cons_zero, List.set_cons_succ]
            refine wpAnyH_take (i := 6) (v := (.int .i64 p)) rfl (by kernel_rfl) (by kernel_rfl) (by kernel_rfl) (fun _ _ _ h => h) (Or.inl ⟨by kernel_rfl, fun w0 _ => Eq.trans (b := Result.ok (Next.value (.int .i64 (IntKind.i64.wrap (0 - -p)))) w0) (by kernel_rfl) (by rw [hw2])⟩) hH2 ?_
            change wpAnyH _ _ _ _ _ _ _ (Act.put _ (some 116) _) _
            simp only [Act.put, List.setIfInBounds_toArray, List.set_cons_zero, List.set_cons_succ]
            refine wpAnyH_take (i := 7) (v := (.bool false)) rfl (by kernel_rfl) (by kernel_rfl) (by kernel_rfl) (fun _ _ _ h => h) (Or.inl ⟨by kernel_rfl, fun w0 _ => Eq.trans (b := Result.ok (Next.value (.bool (p != p))) w0) (by kernel_rfl) (by rw [hne])⟩) hH2 ?_
            change wpAnyH _ _ _ _ _ _ _ (Act.put _ (some 117) _) _
            simp only [Act.put, List.setIfInBounds_toArray, List.set_cons_zero, List.set_cons_succ]
            refine wpAnyH_take (i := 8) (v := (.bool false)) rfl (by kernel_rfl) (by kernel_rfl) (by kernel_rfl) (fun _ _ _ h => h) (Or.inl ⟨by kernel_rfl, fun _ _ => by kernel_rfl⟩) hH2 ?_
            change wpAnyH _ _ _ _ _ _ _ (Act.put _ (some 118) _) _
            simp only [Act.put, List.setIfInBounds_toArray, List.set_cons_zero, List.set_cons_succ]
            refine wpAnyH_take (i := 9) (v := (.agg #[X1, X2])) rfl (by kernel_rfl) (by kernel_rfl) (by kernel_rfl) (fun _ _ _ h => h) (Or.inl ⟨by kernel_rfl, ?y169⟩) hH2 ?r169
            case y169 => (intro w0 hS0; (try dsimp only at hS0); go_simp)
            change wpAnyH _ _ _ _ _ _ _ (Act.put _ (some 119) _) _
            simp only [Act.put, List.setIfInBounds_toArray, List.set_cons_zero, List.set_cons_succ]
            refine wpAnyH_take (i := 10) (v := (.agg #[Y1, Y2])) rfl (by kernel_rfl) (by kernel_rfl) (by kernel_rfl) (fun _ _ _ h => h) (Or.inl ⟨by kernel_rfl, ?y170⟩) hH2 ?r170
            case y170 => (intro w0 hS0; (try dsimp only at hS0); go_simp)
            change wpAnyH _ _ _ _ _ _ _ (Act.put _ (some 120) _) _
            simp only [Act.put, List.setIfInBounds_toArray, List.set_cons_zero, List.set_cons_succ]
            refine wpAnyH_ready (rs := [11]) (by kernel_rfl) (by simp) ?_
            refine AllReadyH.cons rfl (fun K hK0 => ?_) AllReadyH.nil
            have hK := hK0.out
            clear hK0
            rw [if_pos (by kernel_rfl)]
            refine wp_go_call 32 #[(.agg #[X1, X2]), (.agg #[Y1, Y2])] (fun _ => by kernel_rfl) ((cmp_is _ _ x y p 8 _ (by exact B2.ix) (by exact B2.iy) (by decide) (by exact HF.out.1) (by exact HF.out.2.1) (by exact HN.out.1)).mono ?k171)
            rintro e w3 ⟨rfl, hb3⟩
            have B3 := B2.step hb3 rfl
            have bl3 := begun_then bl2 hb3 rfl rfl rfl rfl
            clear B2 bl2 hb3
            refine ⟨(.int .i64 p), rfl, hK _ _ (B3.cells) (fun hH3 => ?_)⟩
            clear hK K hH2
            change wpAnyH _ _ _ _ _ _ _ (Act.put _ (some 121) _) _
            simp only [Act.put, List.setIfInBounds_toArray, List.set_cons_zero, List.set_cons_succ]
            refine wpAnyH_take (i := 12) (v := (.bool false)) rfl (by kernel_rfl) (by kernel_rfl) (by kernel_rfl) (fun _ _ _ h => h) (Or.inl ⟨by kernel_rfl, fun w0 _ => Eq.trans (b := Result.ok (Next.value (.bool (decide (p ≤ (0 : Int))))) w0) (by kernel_rfl) (by rw [dp])⟩) hH3 ?_
            change wpAnyH _ _ _ _ _ _ _ (Act.put _ (some 122) _) _
            simp only [Act.put, List.setIfInBounds_toArray, List.set_cons_zero, List.set_cons_succ]
            refine wpAnyH_take (i := 13) (v := (.bool false)) rfl (by kernel_rfl) (by kernel_rfl) (by kernel_rfl) (fun _ _ _ h => h) (Or.inl ⟨by kernel_rfl, fun _ _ => by kernel_rfl⟩) hH3 ?_
            change wpAnyH _ _ _ _ _ _ _ (Act.put _ (some 123) _) _
            simp only [Act.put, List.setIfInBounds_toArray, List.set_cons_zero, List.set_cons_succ]
            refine wpAnyH_take (i := 14) (v := undef) rfl (by kernel_rfl) (by kernel_rfl) (by kernel_rfl) (fun _ _ _ h => h) (Or.inr ⟨by kernel_rfl, rfl⟩) hH3 ?_
            change wpAnyH _ _ _ _ _ _ _ (Act.put _ (some 124) _) _
            simp only [Act.put, List.setIfInBounds_toArray, List.set_cons_zero, List.set_cons_succ]
            refine wpAnyH_take (i := 15) (v := undef) rfl (by kernel_rfl) (by kernel_rfl) (by kernel_rfl) (fun _ _ _ h => h) (Or.inr ⟨by kernel_rfl, rfl⟩) hH3 ?_
            change wpAnyH _ _ _ _ _ _ _ (Act.put _ (some 125) _) _
            simp only [Act.put, List.setIfInBounds_toArray, List.set_cons_zero, List.set_cons_succ]
            refine wpAnyH_take (i := 16) (v := undef) rfl (by kernel_rfl) (by kernel_rfl) (by kernel_rfl) (fun _ _ _ h => h) (Or.inr ⟨by kernel_rfl, rfl⟩) hH3 ?_
            change wpAnyH _ _ _ _ _ _ _ (Act.put _ (some 126) _) _
            simp only [Act.put, List.setIfInBounds_toArray, List.set_cons_zero, List.set_cons_succ]
            refine wpAnyH_take (i := 17) (v := undef) rfl (by kernel_rfl) (by kernel_rfl) (by kernel_rfl) (fun _ _ _ h => h) (Or.inr ⟨by kernel_rfl, rfl⟩) hH3 ?_
            change wpAnyH _ _ _ _ _ _ _ (Act.put _ (some 127) _) _
            simp only [Act.put, List.setIfInBounds_toArray, List.set_cons_zero, List.set_cons_succ]
            refine wpAnyH_take (i := 18) (v := (Value.bool false)) rfl (by kernel_rfl) (by kernel_rfl) (by kernel_rfl) (fun _ _ _ h => h) (Or.inl ⟨by kernel_rfl, fun _ _ => by kernel_rfl⟩) hH3 ?_
            change wpAnyH _ _ _ _ _ _ _ (Act.put _ (some 128) _) _
            simp only [Act.put, List.setIfInBounds_toArray, List.set_cons_zero, List.set_cons_succ]
            refine wpAnyH_take (i := 19) (v := (Value.bool false)) rfl (by kernel_rfl) (by kernel_rfl) (by kernel_rfl) (fun _ _ _ h => h) (Or.inl ⟨by kernel_rfl, fun _ _ => by kernel_rfl⟩) hH3 ?_
            change wpAnyH _ _ _ _ _ _ _ (Act.put _ (some 129) _) _
            simp only [Act.put, List.setIfInBounds_toArray, List.set_cons_zero, List.set_cons_succ]
            refine wpAnyH_take (i := 20) (v := undef) rfl (by kernel_rfl) (by kernel_rfl) (by kernel_rfl) (fun _ _ _ h => h) (Or.inr ⟨by kernel_rfl, rfl⟩) hH3 ?_
            change wpAnyH _ _ _ _ _ _ _ (Act.put _ (some 130) _) _
            simp only [Act.put, List.setIfInBounds_toArray, List.set_cons_zero, List.set_cons_succ]
            refine wpAnyH_take (i := 21) (v := undef) rfl (by kernel_rfl) (by kernel_rfl) (by kernel_rfl) (fun _ _ _ h => h) (Or.inr ⟨by kernel_rfl, rfl⟩) hH3 ?_
            change wpAnyH _ _ _ _ _ _ _ (Act.put _ (some 131) _) _
            simp only [Act.put, List.setIfInBounds_toArray, List.set_cons_zero, List.set_cons_succ]
            refine wpAnyH_take (i := 22) (v := undef) rfl (by kernel_rfl) (by kernel_rfl) (by kernel_rfl) (fun _ _ _ h => h) (Or.inr ⟨by kernel_rfl, rfl⟩) hH3 ?_
            change wpAnyH _ _ _ _ _ _ _ (Act.put _ (some 132) _) _
            simp only [Act.put, List.setIfInBounds_toArray, List.set_cons_zero, List.set_cons_succ]
            refine wpAnyH_take (i := 23) (v := undef) rfl (by kernel_rfl) (by kernel_rfl) (by kernel_rfl) (fun _ _ _ h => h) (Or.inr ⟨by kernel_rfl, rfl⟩) hH3 ?_
            change wpAnyH _ _ _ _ _ _ _ (Act.put _ (some 133) _) _
            simp only [Act.put, List.setIfInBounds_toArray, List.set_cons_zero, List.set_cons_succ]
            refine wpAnyH_take (i := 24) (v := (Value.bool false)) rfl (by kernel_rfl) (by kernel_rfl) (by kernel_rfl) (fun _ _ _ h => h) (Or.inl ⟨by kernel_rfl, fun _ _ => by kernel_rfl⟩) hH3 ?_
            change wpAnyH _ _ _ _ _ _ _ (Act.put _ (some 134) _) _
            simp only [Act.put, List.setIfInBounds_toArray, List.set_cons_zero, List.set_cons_succ]
            refine wpAnyH_take (i := 25) (v := (Value.bool false)) rfl (by kernel_rfl) (by kernel_rfl) (by kernel_rfl) (fun _ _ _ h => h) (Or.inl ⟨by kernel_rfl, fun _ _ => by kernel_rfl⟩) hH3 ?_
            change wpAnyH _ _ _ _ _ _ _ (Act.put _ (some 135) _) _
            simp only [Act.put, List.setIfInBounds_toArray, List.set_cons_zero, List.set_cons_succ]
            refine wpAnyH_take (i := 26) (v := (Value.bool false)) rfl (by kernel_rfl) (by kernel_rfl) (by kernel_rfl) (fun _ _ _ h => h) (Or.inl ⟨by kernel_rfl, fun _ _ => by kernel_rfl⟩) hH3 ?_
            change wpAnyH _ _ _ _ _ _ _ (Act.put _ (some 136) _) _
            simp only [Act.put, List.setIfInBounds_toArray, List.set_cons_zero, List.set_cons_succ]
            refine wpAnyH_take (i := 27) (v := (.agg #[X1, X2])) rfl (by kernel_rfl) (by kernel_rfl) (by kernel_rfl) (fun _ _ _ h => h) (Or.inl ⟨by kernel_rfl, ?y172⟩) hH3 ?r172
            case y172 => (intro w0 hS0; (try dsimp only at hS0); go_simp)
            change wpAnyH _ _ _ _ _ _ _ (Act.put _ (some 137) _) _
            simp only [Act.put, List.setIfInBounds_toArray, List.set_cons_zero, List.set_cons_succ]
            refine wpAnyH_take (i := 28) (v := (.agg #[Z1, Z2])) rfl (by kernel_rfl) (by kernel_rfl) (by kernel_rfl) (fun _ _ _ h => h) (Or.inl ⟨by kernel_rfl, ?y173⟩) hH3 ?r173
            case y173 => (intro w0 hS0; (try dsimp only at hS0); go_simp)
            change wpAnyH _ _ _ _ _ _ _ (Act.put _ (some 138) _) _
            simp only [Act.put, List.setIfInBounds_toArray, List.set_cons_zero, List.set_cons_succ]
            refine wpAnyH_take (i := 30) (v := (.agg #[Y1, Y2])) rfl (by kernel_rfl) (by kernel_rfl) (by kernel_rfl) (fun _ _ _ h => h) (Or.inl ⟨by kernel_rfl, ?y174⟩) hH3 ?r174
            case y174 => (intro w0 hS0; (try dsimp only at hS0); go_simp)
            change wpAnyH _ _ _ _ _ _ _ (Act.put _ (some 140) _) _
            simp only [Act.put, List.setIfInBounds_toArray, List.set_cons_zero, List.set_cons_succ]
            refine wpAnyH_take (i := 31) (v := (.agg #[Z1, Z2])) rfl (by kernel_rfl) (by kernel_rfl) (by kernel_rfl) (fun _ _ _ h => h) (Or.inl ⟨by kernel_rfl, ?y175⟩) hH3 ?r175
            case y175 => (intro w0 hS0; (try dsimp only at hS0); go_simp)
            change wpAnyH _ _ _ _ _ _ _ (Act.put _ (some 141) _) _
            simp only [Act.put, List.setIfInBounds_toArray, List.set_cons_zero, List.set_cons_succ]
            refine wpAnyH_take (i := 34) (v := (.agg #[X1, X2])) rfl (by kernel_rfl) (by kernel_rfl) (by kernel_rfl) (fun _ _ _ h => h) (Or.inl ⟨by kernel_rfl, ?y176⟩) hH3 ?r176
            case y176 => (intro w0 hS0; (try dsimp only at hS0); go_simp)
            change wpAnyH _ _ _ _ _ _ _ (Act.put _ (some 144) _) _
            simp only [Act.put, List.setIfInBounds_toArray, List.set_cons_zero, List.set_cons_succ]
            refine wpAnyH_take (i := 35) (v := (.agg #[Y1, Y2])) rfl (by kernel_rfl) (by kernel_rfl) (by kernel_rfl) (fun _ _ _ h => h) (Or.inl ⟨by kernel_rfl, ?y177⟩) hH3 ?r177
            case y177 => (intro w0 hS0; (try dsimp only at hS0); go_simp)
            change wpAnyH _ _ _ _ _ _ _ (Act.put _ (some 145) _) _
            simp only [Act.put, List.setIfInBounds_toArray, List.set_cons_zero, List.set_cons_succ]
            refine wpAnyH_ready (rs := [29]) (by kernel_rfl) (by simp) ?_
            refine AllReadyH.cons rfl (fun K hK0 => ?_) AllReadyH.nil
            have hK := hK0.out
            clear hK0
            rw [if_pos (by kernel_rfl)]
            refine wp_go_call 38 #[(.agg #[X1, X2]), (.agg #[Z1, Z2])] (fun _ => by kernel_rfl) ((Add_any _ _ x z 8 _ (by exact B3.ix) (by exact B3.iz) (by decide) (by exact HF.out.1) (by exact HF.out.2.2)).mono ?k178)
            rintro e w4 ⟨v4, rfl, i4_4, hb4⟩
            have B4 := B3.step hb4 rfl
            have bl4 := begun_then bl3 hb4 rfl rfl rfl rfl
            clear B3 bl3 hb4
            refine ⟨v4, rfl, hK _ _ (B4.cells) (fun hH4 => ?_)⟩
            clear hK K hH3
            change wpAnyH _ _ _ _ _ _ _ (Act.put _ (some 139) _) _
            simp only [Act.put, List.setIfInBounds_toArray, List.set_cons_zero, List.set_cons_succ]
            refine wpAnyH_ready (rs := [32]) (by kernel_rfl) (by simp) ?_
            refine AllReadyH.cons rfl (fun K hK0 => ?_) AllReadyH.nil
            have hK := hK0.out
            clear hK0
            rw [if_pos (by kernel_rfl)]
            refine wp_go_call 38 #[(.agg #[Y1, Y2]), (.agg #[Z1, Z2])] (fun _ => by kernel_rfl) ((Add_any _ _ y z 8 _ (by exact B4.iy) (by exact B4.iz) (by decide) (by exact HF.out.2.1) (by exact HF.out.2.2)).mono ?k179)
            rintro e w5 ⟨v5, rfl, i5_5, hb5⟩
            have B5 := B4.step hb5 rfl
            have bl5 := begun_then bl4 hb5 rfl rfl rfl rfl
            have i4_5 := i4_4.step hb5 rfl
            clear B4 bl4 hb5 i4_4
            refine ⟨v5, rfl, hK _ _ (B5.cells) (fun hH5 => ?_)⟩
            clear hK K hH4
            change wpAnyH _ _ _ _ _ _ _ (Act.put _ (some 142) _) _
            simp only [Act.put, List.setIfInBounds_toArray, List.set_cons_zero, List.set_cons_succ]
            refine wpAnyH_ready (rs := [33]) (by kernel_rfl) (by simp) ?_
            refine AllReadyH.cons rfl (fun K hK0 => ?_) AllReadyH.nil
            have hK := hK0.out
            clear hK0
            rw [if_pos (by kernel_rfl)]
            refine wp_go_call 32 #[v4, v5] (fun _ => by kernel_rfl) ((cmp_is _ _ (x + z) (y + z) p 9 _ (by exact i4_5) (by exact i5_5) (by decide) (by exact (HF.out.1.add HF.out.2.2)) (by exact (HF.out.2.1.add HF.out.2.2)) (by exact HN.out.2.2.2.2.1)).mono ?k180)
            rintro e w6 ⟨rfl, hb6⟩
            have B6 := B5.step hb6 rfl
            have bl6 := begun_then bl5 hb6 rfl rfl rfl rfl
            clear B5 bl5 hb6 i4_5 i5_5
            refine ⟨(.int .i64 p), rfl, hK _ _ (B6.cells) (fun hH6 => ?_)⟩
            clear hK K hH5
            change wpAnyH _ _ _ _ _ _ _ (Act.put _ (some 143) _) _
            simp only [Act.put, List.setIfInBounds_toArray, List.set_cons_zero, List.set_cons_succ]
            refine wpAnyH_ready (rs := [36]) (by kernel_rfl) (by simp) ?_
            refine AllReadyH.cons rfl (fun K hK0 => ?_) AllReadyH.nil
            have hK := hK0.out
            clear hK0
            rw [if_pos (by kernel_rfl)]
            refine wp_go_call 32 #[(.agg #[X1, X2]), (.agg #[Y1, Y2])] (fun _ => by kernel_rfl) ((cmp_is _ _ x y p 8 _ (by exact B6.ix) (by exact B6.iy) (by decide) (by exact HF.out.1) (by exact HF.out.2.1) (by exact HN.out.1)).mono ?k181)
            rintro e w7 ⟨rfl, hb7⟩
            have B7 := B6.step hb7 rfl
            have bl7 := begun_then bl6 hb7 rfl rfl rfl rfl
            clear B6 bl6 hb7
            refine ⟨(.int .i64 p), rfl, hK _ _ (B7.cells) (fun hH7 => ?_)⟩
            clear hK K hH6
            change wpAnyH _ _ _ _ _ _ _ (Act.put _ (some 146) _) _
            simp only [Act.put, List.setIfInBounds_toArray, List.set_cons_zero, List.set_cons_succ]
            refine wpAnyH_take (i := 37) (v := (.bool false)) rfl (by kernel_rfl) (by kernel_rfl) (by kernel_rfl) (fun _ _ _ h => h) (Or.inl ⟨by kernel_rfl, fun w0 _ => Eq.trans (b := Result.ok (Next.value (.bool (p != p))) w0) (by kernel_rfl) (by rw [hne])⟩) hH7 ?_
            change wpAnyH _ _ _ _ _ _ _ (Act.put _ (some 147) _) _
            simp only [Act.put, List.setIfInBounds_toArray, List.set_cons_zero, List.set_cons_succ]
            refine wpAnyH_take (i := 38) (v := (.bool false)) rfl (by kernel_rfl) (by kernel_rfl) (by kernel_rfl) (fun _ _ _ h => h) (Or.inl ⟨by kernel_rfl, fun _ _ => by kernel_rfl⟩) hH7 ?_
            change wpAnyH _ _ _ _ _ _ _ (Act.put _ (some 148) _) _
            simp only [Act.put, List.setIfInBounds_toArray, List.set_cons_zero, List.set_cons_succ]
            refine wpAnyH_take (i := 39) (v := (.bool false)) rfl (by kernel_rfl) (by kernel_rfl) (by kernel_rfl) (fun _ _ _ h => h) (Or.inl ⟨by kernel_rfl, fun _ _ => by kernel_rfl⟩) hH7 ?_
            change wpAnyH _ _ _ _ _ _ _ (Act.put _ (some 149) _) _
            simp only [Act.put, List.setIfInBounds_toArray, List.set_cons_zero, List.set_cons_succ]
            refine wpAnyH_take (i := 40) (v := (.agg #[Z1, Z2])) rfl (by kernel_rfl) (by kernel_rfl) (by kernel_rfl) (fun _ _ _ h => h) (Or.inl ⟨by kernel_rfl, ?y182⟩) hH7 ?r182
            case y182 => (intro w0 hS0; (try dsimp only at hS0); go_simp)
            change wpAnyH _ _ _ _ _ _ _ (Act.put _ (some 150) _) _
            simp only [Act.put, List.setIfInBounds_toArray, List.set_cons_zero, List.set_cons_succ]
            refine wpAnyH_ready (rs := [41]) (by kernel_rfl) (by simp) ?_
            refine AllReadyH.cons rfl (fun K hK0 => ?_) AllReadyH.nil
            have hK := hK0.out
            clear hK0
            rw [if_pos (by kernel_rfl)]
            refine wp_go_call 22 #[(.agg #[Z1, Z2])] (fun _ => by kernel_rfl) ((sign_is _ z s 8 _ (by exact B7.iz) (by decide) (by exact HF.out.2.2) (by exact HN.out.2.2.2.2.2.2)).mono ?k183)
            rintro e w8 ⟨rfl, hb8⟩
            have B8 := B7.step hb8 rfl
            have bl8 := begun_then bl7 hb8 rfl rfl rfl rfl
            clear B7 bl7 hb8
            refine ⟨(.int .i64 s), rfl, hK _ _ (B8.cells) (fun hH8 => ?_)⟩
            clear hK K hH7
            change wpAnyH _ _ _ _ _ _ _ (Act.put _ (some 151) _) _
            simp only [Act.put, List.setIfInBounds_toArray, List.set_cons_zero, List.set_cons_succ]
            refine wpAnyH_take (i := 42) (v := (.bool false)) rfl (by kernel_rfl) (by kernel_rfl) (by kernel_rfl) (fun _ _ _ h => h) (Or.inl ⟨by kernel_rfl, fun w0 _ => Eq.trans (b := Result.ok (Next.value (.bool (decide ((0 : Int) < s)))) w0) (by kernel_rfl) (by rw [ds])⟩) hH8 ?_
            change wpAnyH _ _ _ _ _ _ _ (Act.put _ (some 152) _) _
            simp only [Act.put, List.setIfInBounds_toArray, List.set_cons_zero, List.set_cons_succ]
            refine wpAnyH_take (i := 43) (v := (.bool false)) rfl (by kernel_rfl) (by kernel_rfl) (by kernel_rfl) (fun _ _ _ h => h) (Or.inl ⟨by kernel_rfl, fun _ _ => by kernel_rfl⟩) hH8 ?_
            change wpAnyH _ _ _ _ _ _ _ (Act.put _ (some 153) _) _
            simp only [Act.put, List.setIfInBounds_toArray, List.set_cons_zero, List.set_cons_succ]
            refine wpAnyH_take (i := 44) (v := undef) rfl (by kernel_rfl) (by kernel_rfl) (by kernel_rfl) (fun _ _ _ h => h) (Or.inr ⟨by kernel_rfl, rfl⟩) hH8 ?_
            change wpAnyH _ _ _ _ _ _ _ (Act.put _ (some 154) _) _
            simp only [Act.put, List.setIfInBounds_toArray, List.set_cons_zero, List.set_cons_succ]
            refine wpAnyH_take (i := 45) (v := undef) rfl (by kernel_rfl) (by kernel_rfl) (by kernel_rfl) (fun _ _ _ h => h) (Or.inr ⟨by kernel_rfl, rfl⟩) hH8 ?_
            change wpAnyH _ _ _ _ _ _ _ (Act.put _ (some 155) _) _
            simp only [Act.put, List.setIfInBounds_toArray, List.set_cons_zero, List.set_cons_succ]
            refine wpAnyH_take (i := 46) (v := undef) rfl (by kernel_rfl) (by kernel_rfl) (by kernel_rfl) (fun _ _ _ h => h) (Or.inr ⟨by kernel_rfl, rfl⟩) hH8 ?_
            change wpAnyH _ _ _ _ _ _ _ (Act.put _ (some 156) _) _
            simp only [Act.put, List.setIfInBounds_toArray, List.set_cons_zero, List.set_cons_succ]
            refine wpAnyH_take (i := 47) (v := undef) rfl (by kernel_rfl) (by kernel_rfl) (by kernel_rfl) (fun _ _ _ h => h) (Or.inr ⟨by kernel_rfl, rfl⟩) hH8 ?_
            change wpAnyH _ _ _ _ _ _ _ (Act.put _ (some 157) _) _
            simp only [Act.put, List.setIfInBounds_toArray, List.set_cons_zero, List.set_cons_succ]
            refine wpAnyH_take (i := 48) (v := undef) rfl (by kernel_rfl) (by kernel_rfl) (by kernel_rfl) (fun _ _ _ h => h) (Or.inr ⟨by kernel_rfl, rfl⟩) hH8 ?_
            change wpAnyH _ _ _ _ _ _ _ (Act.put _ (some 158) _) _
            simp only [Act.put, List.setIfInBounds_toArray, List.set_cons_zero, List.set_cons_succ]
            refine wpAnyH_take (i := 49) (v := undef) rfl (by kernel_rfl) (by kernel_rfl) (by kernel_rfl) (fun _ _ _ h => h) (Or.inr ⟨by kernel_rfl, rfl⟩) hH8 ?_
            change wpAnyH _ _ _ _ _ _ _ (Act.put _ (some 159) _) _
            simp only [Act.put, List.setIfInBounds_toArray, List.set_cons_zero, List.set_cons_succ]
            refine wpAnyH_take (i := 50) (v := undef) rfl (by kernel_rfl) (by kernel_rfl) (by kernel_rfl) (fun _ _ _ h => h) (Or.inr ⟨by kernel_rfl, rfl⟩) hH8 ?_
            change wpAnyH _ _ _ _ _ _ _ (Act.put _ (some 160) _) _
            simp only [Act.put, List.setIfInBounds_toArray, List.set_cons_zero, List.set_cons_succ]
            refine wpAnyH_take (i := 51) (v := undef) rfl (by kernel_rfl) (by kernel_rfl) (by kernel_rfl) (fun _ _ _ h => h) (Or.inr ⟨by kernel_rfl, rfl⟩) hH8 ?_
            change wpAnyH _ _ _ _ _ _ _ (Act.put _ (some 161) _) _
            simp only [Act.put, List.setIfInBounds_toArray, List.set_cons_zero, List.set_cons_succ]
            refine wpAnyH_take (i := 52) (v := undef) rfl (by kernel_rfl) (by kernel_rfl) (by kernel_rfl) (fun _ _ _ h => h) (Or.inr ⟨by kernel_rfl, rfl⟩) hH8 ?_
            change wpAnyH _ _ _ _ _ _ _ (Act.put _ (some 162) _) _
            simp only [Act.put, List.setIfInBounds_toArray, List.set_cons_zero, List.set_cons_succ]
            refine wpAnyH_take (i := 53) (v := undef) rfl (by kernel_rfl) (by kernel_rfl) (by kernel_rfl) (fun _ _ _ h => h) (Or.inr ⟨by kernel_rfl, rfl⟩) hH8 ?_
            change wpAnyH _ _ _ _ _ _ _ (Act.put _ (some 163) _) _
            simp only [Act.put, List.setIfInBounds_toArray, List.set_cons_zero, List.set_cons_succ]
            refine wpAnyH_take (i := 54) (v := undef) rfl (by kernel_rfl) (by kernel_rfl) (by kernel_rfl) (fun _ _ _ h => h) (Or.inr ⟨by kernel_rfl, rfl⟩) hH8 ?_
            change wpAnyH _ _ _ _ _ _ _ (Act.put _ (some 164) _) _
            simp only [Act.put, List.setIfInBounds_toArray, List.set_cons_zero, List.set_cons_succ]
            refine wpAnyH_take (i := 55) (v := (Value.bool false)) rfl (by kernel_rfl) (by kernel_rfl) (by kernel_rfl) (fun _ _ _ h => h) (Or.inl ⟨by kernel_rfl, fun _ _ => by kernel_rfl⟩) hH8 ?_
            change wpAnyH _ _ _ _ _ _ _ (Act.put _ (some 165) _) _
            simp only [Act.put, List.setIfInBounds_toArray, List.set_cons_zero, List.set_cons_succ]
            refine wpAnyH_take (i := 56) (v := (Value.bool false)) rfl (by kernel_rfl) (by kernel_rfl) (by kernel_rfl) (fun _ _ _ h => h) (Or.inl ⟨by kernel_rfl, fun _ _ => by kernel_rfl⟩) hH8 ?_
            change wpAnyH _ _ _ _ _ _ _ (Act.put _ (some 166) _) _
            simp only [Act.put, List.setIfInBounds_toArray, List.set_cons_zero, List.set_cons_succ]
            refine wpAnyH_done (by kernel_rfl) ?_ _
            go_wp2_with fail
            go_meet
            exact ⟨rfl, B8, bl8⟩
          · as_aux_lemma =>
            have HN := Lib.hid (N0.neg)
            have hw2 := N0.wrap3
            clear N0
            have ds : decide ((0 : Int) < s) = false := by exact decide_eq_false (by omega)
            have dp : decide (p ≤ (0 : Int)) = true := by exact decide_eq_true hp
            have dq : decide (q ≤ (0 : Int)) = false := by exact decide_eq_false (by omega)
            have hne : (p != p) = false := bne_self_eq_false p
            refine wp_region_held_drew (S := (fun w' => w'.cell? ⟨r8, 0, none⟩ = some X1 ∧ w'.cell? ⟨r8, 1, none⟩ = some X2 ∧ w'.cell? ⟨r9, 0, none⟩ = some Y1 ∧ w'.cell? ⟨r9, 1, none⟩ = some Y2 ∧ w'.cell? ⟨r10, 0, none⟩ = some Z1 ∧ w'.cell? ⟨r10, 1, none⟩ = some Z2)) (by kernel_rfl) (Bs.cells) (fun hH0 => ?_)
            refine wpAnyH_take (i := 0) (v := (.agg #[X1, X2])) rfl (by kernel_rfl) (by kernel_rfl) (by kernel_rfl) (fun _ _ _ h => h) (Or.inl ⟨by kernel_rfl, ?y184⟩) hH0 ?r184
            case y184 => (intro w0 hS0; (try dsimp only at hS0); go_simp)
            change wpAnyH _ _ _ _ _ _ _ (Act.put _ (some 110) _) _
            simp only [Act.put, List.setIfInBounds_toArray, List.set_cons_zero, List.set_cons_succ]
            refine wpAnyH_take (i := 1) (v := (.agg #[Y1, Y2])) rfl (by kernel_rfl) (by kernel_rfl) (by kernel_rfl) (fun _ _ _ h => h) (Or.inl ⟨by kernel_rfl, ?y185⟩) hH0 ?r185
            case y185 => (intro w0 hS0; (try dsimp only at hS0); go_simp)
            change wpAnyH _ _ _ _ _ _ _ (Act.put _ (some 111) _) _
            simp only [Act.put, List.setIfInBounds_toArray, List.set_cons_zero, List.set_cons_succ]
            refine wpAnyH_take (i := 3) (v := (.agg #[Y1, Y2])) rfl (by kernel_rfl) (by kernel_rfl) (by kernel_rfl) (fun _ _ _ h => h) (Or.inl ⟨by kernel_rfl, ?y186⟩) hH0 ?r186
            case y186 => (intro w0 hS0; (try dsimp only at hS0); go_simp)
            change wpAnyH _ _ _ _ _ _ _ (Act.put _ (some 113) _) _
            simp only [Act.put, List.setIfInBounds_toArray, List.set_cons_zero, List.set_cons_succ]
            refine wpAnyH_take (i := 4) (v := (.agg #[X1, X2])) rfl (by kernel_rfl) (by kernel_rfl) (by kernel_rfl) (fun _ _ _ h => h) (Or.inl ⟨by kernel_rfl, ?y187⟩) hH0 ?r187
            case y187 => (intro w0 hS0; (try dsimp only at hS0); go_simp)
            change wpAnyH _ _ _ _ _ _ _ (Act.put _ (some 114) _) _
            simp only [Act.put, List.setIfInBounds_toArray, List.set_cons_zero, List.set_cons_succ]
            refine wpAnyH_ready (rs := [2]) (by kernel_rfl) (by simp) ?_
            refine AllReadyH.cons rfl (fun K hK0 => ?_) AllReadyH.nil
            have hK := hK0.out
            clear hK0
            rw [if_pos (by kernel_rfl)]
            refine wp_go_call 32 #[(.agg #[X1, X2]), (.agg #[Y1, Y2])] (fun _ => by kernel_rfl) ((cmp_is _ _ x y p 8 _ (by exact Bs.ix) (by exact Bs.iy) (by decide) (by exact HF.out.1) (by exact HF.out.2.1) (by exact HN.out.1)).mono ?k188)
            rintro e w1 ⟨rfl, hb1⟩
            have B1 := Bs.step hb1 rfl
            have bl1 := begun_then bls hb1 rfl rfl rfl rfl
            clear Bs bls hb1
            refine ⟨(.int .i64 p), rfl, hK _ _ (B1.cells) (fun hH1 => ?_)⟩
            clear hK K hH0
            change wpAnyH _ _ _ _ _ _ _ (Act.put _ (some 112) _) _
            simp only [Act.put, List.setIfInBounds_toArray, List.set_cons_zero, List.set_cons_succ]
            refine wpAnyH_ready (rs := [5]) (by kernel_rfl) (by simp) ?_
            refine AllReadyH.cons rfl (fun K hK0 => ?_) AllReadyH.nil
            have hK := hK0.out
            clear hK0
            rw [if_pos (by kernel_rfl)]
            refine wp_go_call 32 #[(.agg #[Y1, Y2]), (.agg #[X1, X2])] (fun _ => by kernel_rfl) ((cmp_is _ _ y x (-p) 8 _ (by exact B1.iy) (by exact B1.ix) (by decide) (by exact HF.out.2.1) (by exact HF.out.1) (by exact HN.out.2.1)).mono ?k189)
            rintro e w2 ⟨rfl, hb2⟩
            have B2 := B1.step hb2 rfl
            have bl2 := begun_then bl1 hb2 rfl rfl rfl rfl
            clear B1 bl1 hb2
            refine ⟨(.int .i64 (-p)), rfl, hK _ _ (B2.cells) (fun hH2 => ?_)⟩
            clear hK K hH1
            change wpAnyH _ _ _ _ _ _ _ (Act.put _ (some 115) _) _
            simp only [Act.put, List.setIfInBounds_toArray, List.set_cons_zero, List.set_cons_succ]
            refine wpAnyH_take (i := 6) (v := (.int .i64 p)) rfl (by kernel_rfl) (by kernel_rfl) (by kernel_rfl) (fun _ _ _ h => h) (Or.inl ⟨by kernel_rfl, fun w0 _ => Eq.trans (b := Result.ok (Next.value (.int .i64 (IntKind.i64.wrap (0 - -p)))) w0) (by kernel_rfl) (by rw [hw2])⟩) hH2 ?_
            change wpAnyH _ _ _ _ _ _ _ (Act.put _ (some 116) _) _
            simp only [Act.put, List.setIfInBounds_toArray, List.set_cons_zero, List.set_cons_succ]
            refine wpAnyH_take (i := 7) (v := (.bool false)) rfl (by kernel_rfl) (by kernel_rfl) (by kernel_rfl) (fun _ _ _ h => h) (Or.inl ⟨by kernel_rfl, fun w0 _ => Eq.trans (b := Result.ok (Next.value (.bool (p != p))) w0) (by kernel_rfl) (by rw [hne])⟩) hH2 ?_
            change wpAnyH _ _ _ _ _ _ _ (Act.put _ (some 117) _) _
            simp only [Act.put, List.setIfInBounds_toArray, List.set_cons_zero, List.set_cons_succ]
            refine wpAnyH_take (i := 8) (v := (.bool false)) rfl (by kernel_rfl) (by kernel_rfl) (by kernel_rfl) (fun _ _ _ h => h) (Or.inl ⟨by kernel_rfl, fun _ _ => by kernel_rfl⟩) hH2 ?_
            change wpAnyH _ _ _ _ _ _ _ (Act.put _ (some 118) _) _
            simp only [Act.put, List.setIfInBounds_toArray, List.set_cons_zero, List.set_cons_succ]
            refine wpAnyH_take (i := 9) (v := (.agg #[X1, X2])) rfl (by kernel_rfl) (by kernel_rfl) (by kernel_rfl) (fun _ _ _ h => h) (Or.inl ⟨by kernel_rfl, ?y190⟩) hH2 ?r190
            case y190 => (intro w0 hS0; (try dsimp only at hS0); go_simp)
            change wpAnyH _ _ _ _ _ _ _ (Act.put _ (some 119) _) _
            simp only [Act.put, List.setIfInBounds_toArray, List.set_cons_zero, List.set_cons_succ]
            refine wpAnyH_take (i := 10) (v := (.agg #[Y1, Y2])) rfl (by kernel_rfl) (by kernel_rfl) (by kernel_rfl) (fun _ _ _ h => h) (Or.inl ⟨by kernel_rfl, ?y191⟩) hH2 ?r191
            case y191 => (intro w0 hS0; (try dsimp only at hS0); go_simp)
            change wpAnyH _ _ _ _ _ _ _ (Act.put _ (some 120) _) _
            simp only [Act.put, List.setIfInBounds_toArray, List.set_cons_zero, List.set_cons_succ]
            refine wpAnyH_ready (rs := [11]) (by kernel_rfl) (by simp) ?_
            refine AllReadyH.cons rfl (fun K hK0 => ?_) AllReadyH.nil
            have hK := hK0.out
            clear hK0
            rw [if_pos (by kernel_rfl)]
            refine wp_go_call 32 #[(.agg #[X1, X2]), (.agg #[Y1, Y2])] (fun _ => by kernel_rfl) ((cmp_is _ _ x y p 8 _ (by exact B2.ix) (by exact B2.iy) (by decide) (by exact HF.out.1) (by exact HF.out.2.1) (by exact HN.out.1)).mono ?k192)
            rintro e w3 ⟨rfl, hb3⟩
            have B3 := B2.step hb3 rfl
            have bl3 := begun_then bl2 hb3 rfl rfl rfl rfl
            clear B2 bl2 hb3
            refine ⟨(.int .i64 p), rfl, hK _ _ (B3.cells) (fun hH3 => ?_)⟩
            clear hK K hH2
            change wpAnyH _ _ _ _ _ _ _ (Act.put _ (some 121) _) _
            simp only [Act.put, List.setIfInBounds_toArray, List.set_cons_zero, List.set_cons_succ]
            refine wpAnyH_take (i := 12) (v := (.bool true)) rfl (by kernel_rfl) (by kernel_rfl) (by kernel_rfl) (fun _ _ _ h => h) (Or.inl ⟨by kernel_rfl, fun w0 _ => Eq.trans (b := Result.ok (Next.value (.bool (decide (p ≤ (0 : Int))))) w0) (by kernel_rfl) (by rw [dp])⟩) hH3 ?_
            change wpAnyH _ _ _ _ _ _ _ (Act.put _ (some 122) _) _
            simp only [Act.put, List.setIfInBounds_toArray, List.set_cons_zero, List.set_cons_succ]
            refine wpAnyH_take (i := 13) (v := (.bool true)) rfl (by kernel_rfl) (by kernel_rfl) (by kernel_rfl) (fun _ _ _ h => h) (Or.inl ⟨by kernel_rfl, fun _ _ => by kernel_rfl⟩) hH3 ?_
            change wpAnyH _ _ _ _ _ _ _ (Act.put _ (some 123) _) _
            simp only [Act.put, List.setIfInBounds_toArray, List.set_cons_zero, List.set_cons_succ]
            refine wpAnyH_take (i := 14) (v := (.agg #[Y1, Y2])) rfl (by kernel_rfl) (by kernel_rfl) (by kernel_rfl) (fun _ _ _ h => h) (Or.inl ⟨by kernel_rfl, ?y193⟩) hH3 ?r193
            case y193 => (intro w0 hS0; (try dsimp only at hS0); go_simp)
            change wpAnyH _ _ _ _ _ _ _ (Act.put _ (some 124) _) _
            simp only [Act.put, List.setIfInBounds_toArray, List.set_cons_zero, List.set_cons_succ]
            refine wpAnyH_take (i := 15) (v := (.agg #[Z1, Z2])) rfl (by kernel_rfl) (by kernel_rfl) (by kernel_rfl) (fun _ _ _ h => h) (Or.inl ⟨by kernel_rfl, ?y194⟩) hH3 ?r194
            case y194 => (intro w0 hS0; (try dsimp only at hS0); go_simp)
            change wpAnyH _ _ _ _ _ _ _ (Act.put _ (some 125) _) _
            simp only [Act.put, List.setIfInBounds_toArray, List.set_cons_zero, List.set_cons_succ]
            refine wpAnyH_ready (rs := [16]) (by kernel_rfl) (by simp) ?_
            refine AllReadyH.cons rfl (fun K hK0 => ?_) AllReadyH.nil
            have hK := hK0.out
            clear hK0
            rw [if_pos (by kernel_rfl)]
            refine wp_go_call 32 #[(.agg #[Y1, Y2]), (.agg #[Z1, Z2])] (fun _ => by kernel_rfl) ((cmp_is _ _ y z q 8 _ (by exact B3.iy) (by exact B3.iz) (by decide) (by exact HF.out.2.1) (by exact HF.out.2.2) (by exact HN.out.2.2.1)).mono ?k195)
            rintro e w4 ⟨rfl, hb4⟩
            have B4 := B3.step hb4 rfl
            have bl4 := begun_then bl3 hb4 rfl rfl rfl rfl
            clear B3 bl3 hb4
            refine ⟨(.int .i64 q), rfl, hK _ _ (B4.cells) (fun hH4 => ?_)⟩
            clear hK K hH3
            change wpAnyH _ _ _ _ _ _ _ (Act.put _ (some 126) _) _
            simp only [Act.put, List.setIfInBounds_toArray, List.set_cons_zero, List.set_cons_succ]
            refine wpAnyH_take (i := 17) (v := (.bool false)) rfl (by kernel_rfl) (by kernel_rfl) (by kernel_rfl) (fun _ _ _ h => h) (Or.inl ⟨by kernel_rfl, fun w0 _ => Eq.trans (b := Result.ok (Next.value (.bool (decide (q ≤ (0 : Int))))) w0) (by kernel_rfl) (by rw [dq])⟩) hH4 ?_
            change wpAnyH _ _ _ _ _ _ _ (Act.put _ (some 127) _) _
            simp only [Act.put, List.setIfInBounds_toArray, List.set_cons_zero, List.set_cons_succ]
            refine wpAnyH_take (i := 18) (v := (.bool false)) rfl (by kernel_rfl) (by kernel_rfl) (by kernel_rfl) (fun _ _ _ h => h) (Or.inl ⟨by kernel_rfl, fun _ _ => by kernel_rfl⟩) hH4 ?_
            change wpAnyH _ _ _ _ _ _ _ (Act.put _ (some 128) _) _
            simp only [Act.put, List.setIfInBounds_toArray, List.set_cons_zero, List.set_cons_succ]
            refine wpAnyH_take (i := 19) (v := (.bool false)) rfl (by kernel_rfl) (by kernel_rfl) (by kernel_rfl) (fun _ _ _ h => h) (Or.inl ⟨by kernel_rfl, fun _ _ => by kernel_rfl⟩) hH4 ?_
            change wpAnyH _ _ _ _ _ _ _ (Act.put _ (some 129) _) _
            simp only [Act.put, List.setIfInBounds_toArray, List.set_cons_zero, List.set_cons_succ]
            refine wpAnyH_take (i := 20) (v := undef) rfl (by kernel_rfl) (by kernel_rfl) (by kernel_rfl) (fun _ _ _ h => h) (Or.inr ⟨by kernel_rfl, rfl⟩) hH4 ?_
            change wpAnyH _ _ _ _ _ _ _ (Act.put _ (some 130) _) _
            simp only [Act.put, List.setIfInBounds_toArray, List.set_cons_zero, List.set_cons_succ]
            refine wpAnyH_take (i := 21) (v := undef) rfl (by kernel_rfl) (by kernel_rfl) (by kernel_rfl) (fun _ _ _ h => h) (Or.inr ⟨by kernel_rfl, rfl⟩) hH4 ?_
            change wpAnyH _ _ _ _ _ _ _ (Act.put _ (some 131) _) _
            simp only [Act.put, List.setIfInBounds_toArray, List.set_cons_zero, List.set_cons_succ]
            refine wpAnyH_take (i := 22) (v := undef) rfl (by kernel_rfl) (by kernel_rfl) (by kernel_rfl) (fun _ _ _ h => h) (Or.inr ⟨by kernel_rfl, rfl⟩) hH4 ?_
            change wpAnyH _ _ _ _ _ _ _ (Act.put _ (some 132) _) _
            simp only [Act.put, List.setIfInBounds_toArray, List.set_cons_zero, List.set_cons_succ]
            refine wpAnyH_take (i := 23) (v := undef) rfl (by kernel_rfl) (by kernel_rfl) (by kernel_rfl) (fun _ _ _ h => h) (Or.inr ⟨by kernel_rfl, rfl⟩) hH4 ?_
            change wpAnyH _ _ _ _ _ _ _ (Act.put _ (some 133) _) _
            simp only [Act.put, List.setIfInBounds_toArray, List.set_cons_zero, List.set_cons_succ]
            refine wpAnyH_take (i := 24) (v := (Value.bool false)) rfl (by kernel_rfl) (by kernel_rfl) (by kernel_rfl) (fun _ _ _ h => h) (Or.inl ⟨by kernel_rfl, fun _ _ => by kernel_rfl⟩) hH4 ?_
            change wpAnyH _ _ _ _ _ _ _ (Act.put _ (some 134) _) _
            simp only [Act.put, List.setIfInBounds_toArray, List.set_cons_zero, List.set_cons_succ]
            refine wpAnyH_take (i := 25) (v := (Value.bool false)) rfl (by kernel_rfl) (by kernel_rfl) (by kernel_rfl) (fun _ _ _ h => h) (Or.inl ⟨by kernel_rfl, fun _ _ => by kernel_rfl⟩) hH4 ?_
            change wpAnyH _ _ _ _ _ _ _ (Act.put _ (some 135) _) _
            simp only [Act.put, List.setIfInBounds_toArray, List.set_cons_zero, List.set_cons_succ]
            refine wpAnyH_take (i := 26) (v := (Value.bool false)) rfl (by kernel_rfl) (by kernel_rfl) (by kernel_rfl) (fun _ _ _ h => h) (Or.inl ⟨by kernel_rfl, fun _ _ => by kernel_rfl⟩) hH4 ?_
            change wpAnyH _ _ _ _ _ _ _ (Act.put _ (some 136) _) _
            simp only [Act.put, List.setIfInBounds_toArray, List.set_cons_zero, List.set_cons_succ]
            refine wpAnyH_take (i := 27) (v := (.agg #[X1, X2])) rfl (by kernel_rfl) (by kernel_rfl) (by kernel_rfl) (fun _ _ _ h => h) (Or.inl ⟨by kernel_rfl, ?y196⟩) hH4 ?r196
            case y196 => (intro w0 hS0; (try dsimp only at hS0); go_simp)
            change wpAnyH _ _ _ _ _ _ _ (Act.put _ (some 137) _) _
            simp only [Act.put, List.setIfInBounds_toArray, List.set_cons_zero, List.set_cons_succ]
            refine wpAnyH_take (i := 28) (v := (.agg #[Z1, Z2])) rfl (by kernel_rfl) (by kernel_rfl) (by kernel_rfl) (fun _ _ _ h => h) (Or.inl ⟨by kernel_rfl, ?y197⟩) hH4 ?r197
            case y197 => (intro w0 hS0; (try dsimp only at hS0); go_simp)
            change wpAnyH _ _ _ _ _ _ _ (Act.put _ (some 138) _) _
            simp only [Act.put, List.setIfInBounds_toArray, List.set_cons_zero, List.set_cons_succ]
            refine wpAnyH_take (i := 30) (v := (.agg #[Y1, Y2])) rfl (by kernel_rfl) (by kernel_rfl) (by kernel_rfl) (fun _ _ _ h => h) (Or.inl ⟨by kernel_rfl, ?y198⟩) hH4 ?r198
            case y198 => (intro w0 hS0; (try dsimp only at hS0); go_simp)
            change wpAnyH _ _ _ _ _ _ _ (Act.put _ (some 140) _) _
            simp only [Act.put, List.setIfInBounds_toArray, List.set_cons_zero, List.set_cons_succ]
            refine wpAnyH_take (i := 31) (v := (.agg #[Z1, Z2])) rfl (by kernel_rfl) (by kernel_rfl) (by kernel_rfl) (fun _ _ _ h => h) (Or.inl ⟨by kernel_rfl, ?y199⟩) hH4 ?r199
            case y199 => (intro w0 hS0; (try dsimp only at hS0); go_simp)
            change wpAnyH _ _ _ _ _ _ _ (Act.put _ (some 141) _) _
            simp only [Act.put, List.setIfInBounds_toArray, List.set_cons_zero, List.set_cons_succ]
            refine wpAnyH_take (i := 34) (v := (.agg #[X1, X2])) rfl (by kernel_rfl) (by kernel_rfl) (by kernel_rfl) (fun _ _ _ h => h) (Or.inl ⟨by kernel_rfl, ?y200⟩) hH4 ?r200
            case y200 => (intro w0 hS0; (try dsimp only at hS0); go_simp)
            change wpAnyH _ _ _ _ _ _ _ (Act.put _ (some 144) _) _
            simp only [Act.put, List.setIfInBounds_toArray, List.set_cons_zero, List.set_cons_succ]
            refine wpAnyH_take (i := 35) (v := (.agg #[Y1, Y2])) rfl (by kernel_rfl) (by kernel_rfl) (by kernel_rfl) (fun _ _ _ h => h) (Or.inl ⟨by kernel_rfl, ?y201⟩) hH4 ?r201
            case y201 => (intro w0 hS0; (try dsimp only at hS0); go_simp)
            change wpAnyH _ _ _ _ _ _ _ (Act.put _ (some 145) _) _
            simp only [Act.put, List.setIfInBounds_toArray, List.set_cons_zero, List.set_cons_succ]
            refine wpAnyH_ready (rs := [29]) (by kernel_rfl) (by simp) ?_
            refine AllReadyH.cons rfl (fun K hK0 => ?_) AllReadyH.nil
            have hK := hK0.out
            clear hK0
            rw [if_pos (by kernel_rfl)]
            refine wp_go_call 38 #[(.agg #[X1, X2]), (.agg #[Z1, Z2])] (fun _ => by kernel_rfl) ((Add_any _ _ x z 8 _ (by exact B4.ix) (by exact B4.iz) (by decide) (by exact HF.out.1) (by exact HF.out.2.2)).mono ?k202)
            rintro e w5 ⟨v5, rfl, i5_5, hb5⟩
            have B5 := B4.step hb5 rfl
            have bl5 := begun_then bl4 hb5 rfl rfl rfl rfl
            clear B4 bl4 hb5
            refine ⟨v5, rfl, hK _ _ (B5.cells) (fun hH5 => ?_)⟩
            clear hK K hH4
            change wpAnyH _ _ _ _ _ _ _ (Act.put _ (some 139) _) _
            simp only [Act.put, List.setIfInBounds_toArray, List.set_cons_zero, List.set_cons_succ]
            refine wpAnyH_ready (rs := [32]) (by kernel_rfl) (by simp) ?_
            refine AllReadyH.cons rfl (fun K hK0 => ?_) AllReadyH.nil
            have hK := hK0.out
            clear hK0
            rw [if_pos (by kernel_rfl)]
            refine wp_go_call 38 #[(.agg #[Y1, Y2]), (.agg #[Z1, Z2])] (fun _ => by kernel_rfl) ((Add_any _ _ y z 8 _ (by exact B5.iy) (by exact B5.iz) (by decide) (by exact HF.out.2.1) (by exact HF.out.2.2)).mono ?k203)
            rintro e w6 ⟨v6, rfl, i6_6, hb6⟩
            have B6 := B5.step hb6 rfl
            have bl6 := begun_then bl5 hb6 rfl rfl rfl rfl
            have i5_6 := i5_5.step hb6 rfl
            clear B5 bl5 hb6 i5_5
            refine ⟨v6, rfl, hK _ _ (B6.cells) (fun hH6 => ?_)⟩
            clear hK K hH5
            change wpAnyH _ _ _ _ _ _ _ (Act.put _ (some 142) _) _
            simp only [Act.put, List.setIfInBounds_toArray, List.set_cons_zero, List.set_cons_succ]
            refine wpAnyH_ready (rs := [33]) (by kernel_rfl) (by simp) ?_
            refine AllReadyH.cons rfl (fun K hK0 => ?_) AllReadyH.nil
            have hK := hK0.out
            clear hK0
            rw [if_pos (by kernel_rfl)]
            refine wp_go_call 32 #[v5, v6] (fun _ => by kernel_rfl) ((cmp_is _ _ (x + z) (y + z) p 9 _ (by exact i5_6) (by exact i6_6) (by decide) (by exact (HF.out.1.add HF.out.2.2)) (by exact (HF.out.2.1.add HF.out.2.2)) (by exact HN.out.2.2.2.2.1)).mono ?k204)
            rintro e w7 ⟨rfl, hb7⟩
            have B7 := B6.step hb7 rfl
            have bl7 := begun_then bl6 hb7 rfl rfl rfl rfl
            clear B6 bl6 hb7 i5_6 i6_6
            refine ⟨(.int .i64 p), rfl, hK _ _ (B7.cells) (fun hH7 => ?_)⟩
            clear hK K hH6
            change wpAnyH _ _ _ _ _ _ _ (Act.put _ (some 143) _) _
            simp only [Act.put, List.setIfInBounds_toArray, List.set_cons_zero, List.set_cons_succ]
            refine wpAnyH_ready (rs := [36]) (by kernel_rfl) (by simp) ?_
            refine AllReadyH.cons rfl (fun K hK0 => ?_) AllReadyH.nil
            have hK := hK0.out
            clear hK0
            rw [if_pos (by kernel_rfl)]
            refine wp_go_call 32 #[(.agg #[X1, X2]), (.agg #[Y1, Y2])] (fun _ => by kernel_rfl) ((cmp_is _ _ x y p 8 _ (by exact B7.ix) (by exact B7.iy) (by decide) (by exact HF.out.1) (by exact HF.out.2.1) (by exact HN.out.1)).mono ?k205)
            rintro e w8 ⟨rfl, hb8⟩
            have B8 := B7.step hb8 rfl
            have bl8 := begun_then bl7 hb8 rfl rfl rfl rfl
            clear B7 bl7 hb8
            refine ⟨(.int .i64 p), rfl, hK _ _ (B8.cells) (fun hH8 => ?_)⟩
            clear hK K hH7
            change wpAnyH _ _ _ _ _ _ _ (Act.put _ (some 146) _) _
            simp only [Act.put, List.setIfInBounds_toArray, List.set_cons_zero, List.set_cons_succ]
            refine wpAnyH_take (i := 37) (v := (.bool false)) rfl (by kernel_rfl) (by kernel_rfl) (by kernel_rfl) (fun _ _ _ h => h) (Or.inl ⟨by kernel_rfl, fun w0 _ => Eq.trans (b := Result.ok (Next.value (.bool (p != p))) w0) (by kernel_rfl) (by rw [hne])⟩) hH8 ?_
            change wpAnyH _ _ _ _ _ _ _ (Act.put _ (some 147) _) _
            simp only [Act.put, List.setIfInBounds_toArray, List.set_cons_zero, List.set_cons_succ]
            refine wpAnyH_take (i := 38) (v := (.bool false)) rfl (by kernel_rfl) (by kernel_rfl) (by kernel_rfl) (fun _ _ _ h => h) (Or.inl ⟨by kernel_rfl, fun _ _ => by kernel_rfl⟩) hH8 ?_
            change wpAnyH _ _ _ _ _ _ _ (Act.put _ (some 148) _) _
            simp only [Act.put, List.setIfInBounds_toArray, List.set_cons_zero, List.set_cons_succ]
            refine wpAnyH_take (i := 39) (v := (.bool false)) rfl (by kernel_rfl) (by kernel_rfl) (by kernel_rfl) (fun _ _ _ h => h) (Or.inl ⟨by kernel_rfl, fun _ _ => by kernel_rfl⟩) hH8 ?_
            change wpAnyH _ _ _ _ _ _ _ (Act.put _ (some 149) _) _
            simp only [Act.put, List.setIfInBounds_toArray, List.set_cons_zero, List.set_cons_succ]
            refine wpAnyH_take (i := 40) (v := (.agg #[Z1, Z2])) rfl (by kernel_rfl) (by kernel_rfl) (by kernel_rfl) (fun _ _ _ h => h) (Or.inl ⟨by kernel_rfl, ?y206⟩) hH8 ?r206
            case y206 => (intro w0 hS0; (try dsimp only at hS0); go_simp)
            change wpAnyH _ _ _ _ _ _ _ (Act.put _ (some 150) _) _
            simp only [Act.put, List.setIfInBounds_toArray, List.set_cons_zero, List.set_cons_succ]
            refine wpAnyH_ready (rs := [41]) (by kernel_rfl) (by simp) ?_
            refine AllReadyH.cons rfl (fun K hK0 => ?_) AllReadyH.nil
            have hK := hK0.out
            clear hK0
            rw [if_pos (by kernel_rfl)]
            refine wp_go_call 22 #[(.agg #[Z1, Z2])] (fun _ => by kernel_rfl) ((sign_is _ z s 8 _ (by exact B8.iz) (by decide) (by exact HF.out.2.2) (by exact HN.out.2.2.2.2.2.2)).mono ?k207)
            rintro e w9 ⟨rfl, hb9⟩
            have B9 := B8.step hb9 rfl
            have bl9 := begun_then bl8 hb9 rfl rfl rfl rfl
            clear B8 bl8 hb9
            refine ⟨(.int .i64 s), rfl, hK _ _ (B9.cells) (fun hH9 => ?_)⟩
            clear hK K hH8
            change wpAnyH _ _ _ _ _ _ _ (Act.put _ (some 151) _) _
            simp only [Act.put, List.setIfInBounds_toArray, List.set_cons_zero, List.set_cons_succ]
            refine wpAnyH_take (i := 42) (v := (.bool false)) rfl (by kernel_rfl) (by kernel_rfl) (by kernel_rfl) (fun _ _ _ h => h) (Or.inl ⟨by kernel_rfl, fun w0 _ => Eq.trans (b := Result.ok (Next.value (.bool (decide ((0 : Int) < s)))) w0) (by kernel_rfl) (by rw [ds])⟩) hH9 ?_
            change wpAnyH _ _ _ _ _ _ _ (Act.put _ (some 152) _) _
            simp only [Act.put, List.setIfInBounds_toArray, List.set_cons_zero, List.set_cons_succ]
            refine wpAnyH_take (i := 43) (v := (.bool false)) rfl (by kernel_rfl) (by kernel_rfl) (by kernel_rfl) (fun _ _ _ h => h) (Or.inl ⟨by kernel_rfl, fun _ _ => by kernel_rfl⟩) hH9 ?_
            change wpAnyH _ _ _ _ _ _ _ (Act.put _ (some 153) _) _
            simp only [Act.put, List.setIfInBounds_toArray, List.set_cons_zero, List.set_cons_succ]
            refine wpAnyH_take (i := 44) (v := undef) rfl (by kernel_rfl) (by kernel_rfl) (by kernel_rfl) (fun _ _ _ h => h) (Or.inr ⟨by kernel_rfl, rfl⟩) hH9 ?_
            change wpAnyH _ _ _ _ _ _ _ (Act.put _ (some 154) _) _
            simp only [Act.put, List.setIfInBounds_toArray, List.set_cons_zero, List.set_cons_succ]
            refine wpAnyH_take (i := 45) (v := undef) rfl (by kernel_rfl) (by kernel_rfl) (by kernel_rfl) (fun _ _ _ h => h) (Or.inr ⟨by kernel_rfl, rfl⟩) hH9 ?_
            change wpAnyH _ _ _ _ _ _ _ (Act.put _ (some 155) _) _
            simp only [Act.put, List.setIfInBounds_toArray, List.set_cons_zero, List.set_cons_succ]
            refine wpAnyH_take (i := 46) (v := undef) rfl (by kernel_rfl) (by kernel_rfl) (by kernel_rfl) (fun _ _ _ h => h) (Or.inr ⟨by kernel_rfl, rfl⟩) hH9 ?_
            change wpAnyH _ _ _ _ _ _ _ (Act.put _ (some 156) _) _
            simp only [Act.put, List.setIfInBounds_toArray, List.set_cons_zero, List.set_cons_succ]
            refine wpAnyH_take (i := 47) (v := undef) rfl (by kernel_rfl) (by kernel_rfl) (by kernel_rfl) (fun _ _ _ h => h) (Or.inr ⟨by kernel_rfl, rfl⟩) hH9 ?_
            change wpAnyH _ _ _ _ _ _ _ (Act.put _ (some 157) _) _
            simp only [Act.put, List.setIfInBounds_toArray, List.set_cons_zero, List.set_cons_succ]
            refine wpAnyH_take (i := 48) (v := undef) rfl (by kernel_rfl) (by kernel_rfl) (by kernel_rfl) (fun _ _ _ h => h) (Or.inr ⟨by kernel_rfl, rfl⟩) hH9 ?_
            change wpAnyH _ _ _ _ _ _ _ (Act.put _ (some 158) _) _
            simp only [Act.put, List.setIfInBounds_toArray, List.set_cons_zero, List.set_cons_succ]
            refine wpAnyH_take (i := 49) (v := undef) rfl (by kernel_rfl) (by kernel_rfl) (by kernel_rfl) (fun _ _ _ h => h) (Or.inr ⟨by kernel_rfl, rfl⟩) hH9 ?_
            change wpAnyH _ _ _ _ _ _ _ (Act.put _ (some 159) _) _
            simp only [Act.put, List.setIfInBounds_toArray, List.set_cons_zero, List.set_cons_succ]
            refine wpAnyH_take (i := 50) (v := undef) rfl (by kernel_rfl) (by kernel_rfl) (by kernel_rfl) (fun _ _ _ h => h) (Or.inr ⟨by kernel_rfl, rfl⟩) hH9 ?_
            change wpAnyH _ _ _ _ _ _ _ (Act.put _ (some 160) _) _
            simp only [Act.put, List.setIfInBounds_toArray, List.set_cons_zero, List.set_cons_succ]
            refine wpAnyH_take (i := 51) (v := undef) rfl (by kernel_rfl) (by kernel_rfl) (by kernel_rfl) (fun _ _ _ h => h) (Or.inr ⟨by kernel_rfl, rfl⟩) hH9 ?_
            change wpAnyH _ _ _ _ _ _ _ (Act.put _ (some 161) _) _
            simp only [Act.put, List.setIfInBounds_toArray, List.set_cons_zero, List.set_cons_succ]
            refine wpAnyH_take (i := 52) (v := undef) rfl (by kernel_rfl) (by kernel_rfl) (by kernel_rfl) (fun _ _ _ h => h) (Or.inr ⟨by kernel_rfl, rfl⟩) hH9 ?_
            change wpAnyH _ _ _ _ _ _ _ (Act.put _ (some 162) _) _
            simp only [Act.put, List.setIfInBounds_toArray, List.set_cons_zero, List.set_cons_succ]
            refine wpAnyH_take (i := 53) (v := undef) rfl (by kernel_rfl) (by kernel_rfl) (by kernel_rfl) (fun _ _ _ h => h) (Or.inr ⟨by kernel_rfl, rfl⟩) hH9 ?_
            change wpAnyH _ _ _ _ _ _ _ (Act.put _ (some 163) _) _
            simp only [Act.put, List.setIfInBounds_toArray, List.set_cons_zero, List.set_cons_succ]
            refine wpAnyH_take (i := 54) (v := undef) rfl (by kernel_rfl) (by kernel_rfl) (by kernel_rfl) (fun _ _ _ h => h) (Or.inr ⟨by kernel_rfl, rfl⟩) hH9 ?_
            change wpAnyH _ _ _ _ _ _ _ (Act.put _ (some 164) _) _
            simp only [Act.put, List.setIfInBounds_toArray, List.set_cons_zero, List.set_cons_succ]
            refine wpAnyH_take (i := 55) (v := (Value.bool false)) rfl (by kernel_rfl) (by kernel_rfl) (by kernel_rfl) (fun _ _ _ h => h) (Or.inl ⟨by kernel_rfl, fun _ _ => by kernel_rfl⟩) hH9 ?_
            change wpAnyH _ _ _ _ _ _ _ (Act.put _ (some 165) _) _
            simp only [Act.put, List.setIfInBounds_toArray, List.set_cons_zero, List.set_cons_succ]
            refine wpAnyH_take (i := 56) (v := (Value.bool false)) rfl (by kernel_rfl) (by kernel_rfl) (by kernel_rfl) (fun _ _ _ h => h) (Or.inl ⟨by kernel_rfl, fun _ _ => by kernel_rfl⟩) hH9 ?_
            change wpAnyH _ _ _ _ _ _ _ (Act.put _ (some 166) _) _
            simp only [Act.put, List.setIfInBounds_toArray, List.set_cons_zero, List.set_cons_succ]
            refine wpAnyH_done (by kernel_rfl) ?_ _
            go_wp2_with fail
            go_meet
            exact ⟨rfl, B9, bl9⟩
          · as_aux_lemma =>
            have HN := Lib.hid (N0.neg)
            have hw2 := N0.wrap3
            clear N0
            have ds : decide ((0 : Int) < s) = false := by exact decide_eq_false (by omega)
            have dp : decide (p ≤ (0 : Int)) = true := by exact decide_eq_true hp
            have dq : decide (q ≤ (0 : Int)) = true := by exact decide_eq_true hq
            have dr : decide ((0 : Int) < r) = false := by exact decide_eq_false (by omega)
            have hne : (p != p) = false := bne_self_eq_false p
            refine wp_region_held_drew (S := (fun w' => w'.cell? ⟨r8, 0, none⟩ = some X1 ∧ w'.cell? ⟨r8, 1, none⟩ = some X2 ∧ w'.cell? ⟨r9, 0, none⟩ = some Y1 ∧ w'.cell? ⟨r9, 1, none⟩ = some Y2 ∧ w'.cell? ⟨r10, 0, none⟩ = some Z1 ∧ w'.cell? ⟨r10, 1, none⟩ = some Z2)) (by kernel_rfl) (Bs.cells) (fun hH0 => ?_)
            refine wpAnyH_take (i := 0) (v := (.agg #[X1, X2])) rfl (by kernel_rfl) (by kernel_rfl) (by kernel_rfl) (fun _ _ _ h => h) (Or.inl ⟨by kernel_rfl, ?y208⟩) hH0 ?r208
            case y208 => (intro w0 hS0; (try dsimp only at hS0); go_simp)
            change wpAnyH _ _ _ _ _ _ _ (Act.put _ (some 110) _) _
            simp only [Act.put, List.setIfInBounds_toArray, List.set_cons_zero, List.set_cons_succ]
            refine wpAnyH_take (i := 1) (v := (.agg #[Y1, Y2])) rfl (by kernel_rfl) (by kernel_rfl) (by kernel_rfl) (fun _ _ _ h => h) (Or.inl ⟨by kernel_rfl, ?y209⟩) hH0 ?r209
            case y209 => (intro w0 hS0; (try dsimp only at hS0); go_simp)
            change wpAnyH _ _ _ _ _ _ _ (Act.put _ (some 111) _) _
            simp only [Act.put, List.setIfInBounds_toArray, List.set_cons_zero, List.set_cons_succ]
            refine wpAnyH_take (i := 3) (v := (.agg #[Y1, Y2])) rfl (by kernel_rfl) (by kernel_rfl) (by kernel_rfl) (fun _ _ _ h => h) (Or.inl ⟨by kernel_rfl, ?y210⟩) hH0 ?r210
            case y210 => (intro w0 hS0; (try dsimp only at hS0); go_simp)
            change wpAnyH _ _ _ _ _ _ _ (Act.put _ (some 113) _) _
            simp only [Act.put, List.setIfInBounds_toArray, List.set_cons_zero, List.set_cons_succ]
            refine wpAnyH_take (i := 4) (v := (.agg #[X1, X2])) rfl (by kernel_rfl) (by kernel_rfl) (by kernel_rfl) (fun _ _ _ h => h) (Or.inl ⟨by kernel_rfl, ?y211⟩) hH0 ?r211
            case y211 => (intro w0 hS0; (try dsimp only at hS0); go_simp)
            change wpAnyH _ _ _ _ _ _ _ (Act.put _ (some 114) _) _
            simp only [Act.put, List.setIfInBounds_toArray, List.set_cons_zero, List.set_cons_succ]
            refine wpAnyH_ready (rs := [2]) (by kernel_rfl) (by simp) ?_
            refine AllReadyH.cons rfl (fun K hK0 => ?_) AllReadyH.nil
            have hK := hK0.out
            clear hK0
            rw [if_pos (by kernel_rfl)]
            refine wp_go_call 32 #[(.agg #[X1, X2]), (.agg #[Y1, Y2])] (fun _ => by kernel_rfl) ((cmp_is _ _ x y p 8 _ (by exact Bs.ix) (by exact Bs.iy) (by decide) (by exact HF.out.1) (by exact HF.out.2.1) (by exact HN.out.1)).mono ?k212)
            rintro e w1 ⟨rfl, hb1⟩
            have B1 := Bs.step hb1 rfl
            have bl1 := begun_then bls hb1 rfl rfl rfl rfl
            clear Bs bls hb1
            refine ⟨(.int .i64 p), rfl, hK _ _ (B1.cells) (fun hH1 => ?_)⟩
            clear hK K hH0
            change wpAnyH _ _ _ _ _ _ _ (Act.put _ (some 112) _) _
            simp only [Act.put, List.setIfInBounds_toArray, List.set_cons_zero, List.set_cons_succ]
            refine wpAnyH_ready (rs := [5]) (by kernel_rfl) (by simp) ?_
            refine AllReadyH.cons rfl (fun K hK0 => ?_) AllReadyH.nil
            have hK := hK0.out
            clear hK0
            rw [if_pos (by kernel_rfl)]
            refine wp_go_call 32 #[(.agg #[Y1, Y2]), (.agg #[X1, X2])] (fun _ => by kernel_rfl) ((cmp_is _ _ y x (-p) 8 _ (by exact B1.iy) (by exact B1.ix) (by decide) (by exact HF.out.2.1) (by exact HF.out.1) (by exact HN.out.2.1)).mono ?k213)
            rintro e w2 ⟨rfl, hb2⟩
            have B2 := B1.step hb2 rfl
            have bl2 := begun_then bl1 hb2 rfl rfl rfl rfl
            clear B1 bl1 hb2
            refine ⟨(.int .i64 (-p)), rfl, hK _ _ (B2.cells) (fun hH2 => ?_)⟩
            clear hK K hH1
            change wpAnyH _ _ _ _ _ _ _ (Act.put _ (some 115) _) _
            simp only [Act.put, List.setIfInBounds_toArray, List.set_cons_zero, List.set_cons_succ]
            refine wpAnyH_take (i := 6) (v := (.int .i64 p)) rfl (by kernel_rfl) (by kernel_rfl) (by kernel_rfl) (fun _ _ _ h => h) (Or.inl ⟨by kernel_rfl, fun w0 _ => Eq.trans (b := Result.ok (Next.value (.int .i64 (IntKind.i64.wrap (0 - -p)))) w0) (by kernel_rfl) (by rw [hw2])⟩) hH2 ?_
            change wpAnyH _ _ _ _ _ _ _ (Act.put _ (some 116) _) _
            simp only [Act.put, List.setIfInBounds_toArray, List.set_cons_zero, List.set_cons_succ]
            refine wpAnyH_take (i := 7) (v := (.bool false)) rfl (by kernel_rfl) (by kernel_rfl) (by kernel_rfl) (fun _ _ _ h => h) (Or.inl ⟨by kernel_rfl, fun w0 _ => Eq.trans (b := Result.ok (Next.value (.bool (p != p))) w0) (by kernel_rfl) (by rw [hne])⟩) hH2 ?_
            change wpAnyH _ _ _ _ _ _ _ (Act.put _ (some 117) _) _
            simp only [Act.put, List.setIfInBounds_toArray, List.set_cons_zero, List.set_cons_succ]
            refine wpAnyH_take (i := 8) (v := (.bool false)) rfl (by kernel_rfl) (by kernel_rfl) (by kernel_rfl) (fun _ _ _ h => h) (Or.inl ⟨by kernel_rfl, fun _ _ => by kernel_rfl⟩) hH2 ?_
            change wpAnyH _ _ _ _ _ _ _ (Act.put _ (some 118) _) _
            simp only [Act.put, List.setIfInBounds_toArray, List.set_cons_zero, List.set_cons_succ]
            refine wpAnyH_take (i := 9) (v := (.agg #[X1, X2])) rfl (by kernel_rfl) (by kernel_rfl) (by kernel_rfl) (fun _ _ _ h => h) (Or.inl ⟨by kernel_rfl, ?y214⟩) hH2 ?r214
            case y214 => (intro w0 hS0; (try dsimp only at hS0); go_simp)
            change wpAnyH _ _ _ _ _ _ _ (Act.put _ (some 119) _) _
            simp only [Act.put, List.setIfInBounds_toArray, List.set_cons_zero, List.set_cons_succ]
            refine wpAnyH_take (i := 10) (v := (.agg #[Y1, Y2])) rfl (by kernel_rfl) (by kernel_rfl) (by kernel_rfl) (fun _ _ _ h => h) (Or.inl ⟨by kernel_rfl, ?y215⟩) hH2 ?r215
            case y215 => (intro w0 hS0; (try dsimp only at hS0); go_simp)
            change wpAnyH _ _ _ _ _ _ _ (Act.put _ (some 120) _) _
            simp only [Act.put, List.setIfInBounds_toArray, List.set_cons_zero, List.set_cons_succ]
            refine wpAnyH_ready (rs := [11]) (by kernel_rfl) (by simp) ?_
            refine AllReadyH.cons rfl (fun K hK0 => ?_) AllReadyH.nil
            have hK := hK0.out
            clear hK0
            rw [if_pos (by kernel_rfl)]
            refine wp_go_call 32 #[(.agg #[X1, X2]), (.agg #[Y1, Y2])] (fun _ => by kernel_rfl) ((cmp_is _ _ x y p 8 _ (by exact B2.ix) (by exact B2.iy) (by decide) (by exact HF.out.1) (by exact HF.out.2.1) (by exact HN.out.1)).mono ?k216)
            rintro e w3 ⟨rfl, hb3⟩
            have B3 := B2.step hb3 rfl
            have bl3 := begun_then bl2 hb3 rfl rfl rfl rfl
            clear B2 bl2 hb3
            refine ⟨(.int .i64 p), rfl, hK _ _ (B3.cells) (fun hH3 => ?_)⟩
            clear hK K hH2
            change wpAnyH _ _ _ _ _ _ _ (Act.put _ (some 121) _) _
            simp only [Act.put, List.setIfInBounds_toArray, List.set_cons_zero, List.set_cons_succ]
            refine wpAnyH_take (i := 12) (v := (.bool true)) rfl (by kernel_rfl) (by kernel_rfl) (by kernel_rfl) (fun _ _ _ h => h) (Or.inl ⟨by kernel_rfl, fun w0 _ => Eq.trans (b := Result.ok (Next.value (.bool (decide (p ≤ (0 : Int))))) w0) (by kernel_rfl) (by rw [dp])⟩) hH3 ?_
            change wpAnyH _ _ _ _ _ _ _ (Act.put _ (some 122) _) _
            simp only [Act.put, List.setIfInBounds_toArray, List.set_cons_zero, List.set_cons_succ]
            refine wpAnyH_take (i := 13) (v := (.bool true)) rfl (by kernel_rfl) (by kernel_rfl) (by kernel_rfl) (fun _ _ _ h => h) (Or.inl ⟨by kernel_rfl, fun _ _ => by kernel_rfl⟩) hH3 ?_
            change wpAnyH _ _ _ _ _ _ _ (Act.put _ (some 123) _) _
            simp only [Act.put, List.setIfInBounds_toArray, List.set_cons_zero, List.set_cons_succ]
            refine wpAnyH_take (i := 14) (v := (.agg #[Y1, Y2])) rfl (by kernel_rfl) (by kernel_rfl) (by kernel_rfl) (fun _ _ _ h => h) (Or.inl ⟨by kernel_rfl, ?y217⟩) hH3 ?r217
            case y217 => (intro w0 hS0; (try dsimp only at hS0); go_simp)
            change wpAnyH _ _ _ _ _ _ _ (Act.put _ (some 124) _) _
            simp only [Act.put, List.setIfInBounds_toArray, List.set_cons_zero, List.set_cons_succ]
            refine wpAnyH_take (i := 15) (v := (.agg #[Z1, Z2])) rfl (by kernel_rfl) (by kernel_rfl) (by kernel_rfl) (fun _ _ _ h => h) (Or.inl ⟨by kernel_rfl, ?y218⟩) hH3 ?r218
            case y218 => (intro w0 hS0; (try dsimp only at hS0); go_simp)
            change wpAnyH _ _ _ _ _ _ _ (Act.put _ (some 125) _) _
            simp only [Act.put, List.setIfInBounds_toArray, List.set_cons_zero, List.set_cons_succ]
            refine wpAnyH_ready (rs := [16]) (by kernel_rfl) (by simp) ?_
            refine AllReadyH.cons rfl (fun K hK0 => ?_) AllReadyH.nil
            have hK := hK0.out
            clear hK0
            rw [if_pos (by kernel_rfl)]
            refine wp_go_call 32 #[(.agg #[Y1, Y2]), (.agg #[Z1, Z2])] (fun _ => by kernel_rfl) ((cmp_is _ _ y z q 8 _ (by exact B3.iy) (by exact B3.iz) (by decide) (by exact HF.out.2.1) (by exact HF.out.2.2) (by exact HN.out.2.2.1)).mono ?k219)
            rintro e w4 ⟨rfl, hb4⟩
            have B4 := B3.step hb4 rfl
            have bl4 := begun_then bl3 hb4 rfl rfl rfl rfl
            clear B3 bl3 hb4
            refine ⟨(.int .i64 q), rfl, hK _ _ (B4.cells) (fun hH4 => ?_)⟩
            clear hK K hH3
            change wpAnyH _ _ _ _ _ _ _ (Act.put _ (some 126) _) _
            simp only [Act.put, List.setIfInBounds_toArray, List.set_cons_zero, List.set_cons_succ]
            refine wpAnyH_take (i := 17) (v := (.bool true)) rfl (by kernel_rfl) (by kernel_rfl) (by kernel_rfl) (fun _ _ _ h => h) (Or.inl ⟨by kernel_rfl, fun w0 _ => Eq.trans (b := Result.ok (Next.value (.bool (decide (q ≤ (0 : Int))))) w0) (by kernel_rfl) (by rw [dq])⟩) hH4 ?_
            change wpAnyH _ _ _ _ _ _ _ (Act.put _ (some 127) _) _
            simp only [Act.put, List.setIfInBounds_toArray, List.set_cons_zero, List.set_cons_succ]
            refine wpAnyH_take (i := 18) (v := (.bool true)) rfl (by kernel_rfl) (by kernel_rfl) (by kernel_rfl) (fun _ _ _ h => h) (Or.inl ⟨by kernel_rfl, fun _ _ => by kernel_rfl⟩) hH4 ?_
            change wpAnyH _ _ _ _ _ _ _ (Act.put _ (some 128) _) _
            simp only [Act.put, List.setIfInBounds_toArray, List.set_cons_zero, List.set_cons_succ]
            refine wpAnyH_take (i := 19) (v := (.bool true)) rfl (by kernel_rfl) (by kernel_rfl) (by kernel_rfl) (fun _ _ _ h => h) (Or.inl ⟨by kernel_rfl, fun _ _ => by kernel_rfl⟩) hH4 ?_
            change wpAnyH _ _ _ _ _ _ _ (Act.put _ (some 129) _) _
            simp only [Act.put, List.setIfInBounds_toArray, List.set_cons_zero, List.set_cons_succ]
            refine wpAnyH_take (i := 20) (v := (.agg #[X1, X2])) rfl (by kernel_rfl) (by kernel_rfl) (by kernel_rfl) (fun _ _ _ h => h) (Or.inl ⟨by kernel_rfl, ?y220⟩) hH4 ?r220
            case y220 => (intro w0 hS0; (try dsimp only at hS0); go_simp)
            change wpAnyH _ _ _ _ _ _ _ (Act.put _ (some 130) _) _
            simp only [Act.put, List.setIfInBounds_toArray, List.set_cons_zero, List.set_cons_succ]
            refine wpAnyH_take (i := 21) (v := (.agg #[Z1, Z2])) rfl (by kernel_rfl) (by kernel_rfl) (by kernel_rfl) (fun _ _ _ h => h) (Or.inl ⟨by kernel_rfl, ?y221⟩) hH4 ?r221
            case y221 => (intro w0 hS0; (try dsimp only at hS0); go_simp)
            change wpAnyH _ _ _ _ _ _ _ (Act.put _ (some 131) _) _
            simp only [Act.put, List.setIfInBounds_toArray, List.set_cons_zero, List.set_cons_succ]
            refine wpAnyH_ready (rs := [22]) (by kernel_rfl) (by simp) ?_
            refine AllReadyH.cons rfl (fun K hK0 => ?_) AllReadyH.nil
            have hK := hK0.out
            clear hK0
            rw [if_pos (by kernel_rfl)]
            refine wp_go_call 32 #[(.agg #[X1, X2]), (.agg #[Z1, Z2])] (fun _ => by kernel_rfl) ((cmp_is _ _ x z r 8 _ (by exact B4.ix) (by exact B4.iz) (by decide) (by exact HF.out.1) (by exact HF.out.2.2) (by exact HN.out.2.2.2.1)).mono ?k222)
            rintro e w5 ⟨rfl, hb5⟩
            have B5 := B4.step hb5 rfl
            have bl5 := begun_then bl4 hb5 rfl rfl rfl rfl
            clear B4 bl4 hb5
            refine ⟨(.int .i64 r), rfl, hK _ _ (B5.cells) (fun hH5 => ?_)⟩
            clear hK K hH4
            change wpAnyH _ _ _ _ _ _ _ (Act.put _ (some 132) _) _
            simp only [Act.put, List.setIfInBounds_toArray, List.set_cons_zero, List.set_cons_succ]
            refine wpAnyH_take (i := 23) (v := (.bool false)) rfl (by kernel_rfl) (by kernel_rfl) (by kernel_rfl) (fun _ _ _ h => h) (Or.inl ⟨by kernel_rfl, fun w0 _ => Eq.trans (b := Result.ok (Next.value (.bool (decide ((0 : Int) < r)))) w0) (by kernel_rfl) (by rw [dr])⟩) hH5 ?_
            change wpAnyH _ _ _ _ _ _ _ (Act.put _ (some 133) _) _
            simp only [Act.put, List.setIfInBounds_toArray, List.set_cons_zero, List.set_cons_succ]
            refine wpAnyH_take (i := 24) (v := (.bool false)) rfl (by kernel_rfl) (by kernel_rfl) (by kernel_rfl) (fun _ _ _ h => h) (Or.inl ⟨by kernel_rfl, fun _ _ => by kernel_rfl⟩) hH5 ?_
            change wpAnyH _ _ _ _ _ _ _ (Act.put _ (some 134) _) _
            simp only [Act.put, List.setIfInBounds_toArray, List.set_cons_zero, List.set_cons_succ]
            refine wpAnyH_take (i := 25) (v := (.bool false)) rfl (by kernel_rfl) (by kernel_rfl) (by kernel_rfl) (fun _ _ _ h => h) (Or.inl ⟨by kernel_rfl, fun _ _ => by kernel_rfl⟩) hH5 ?_
            change wpAnyH _ _ _ _ _ _ _ (Act.put _ (some 135) _) _
            simp only [Act.put, List.setIfInBounds_toArray, List.set_cons_zero, List.set_cons_succ]
            refine wpAnyH_take (i := 26) (v := (.bool false)) rfl (by kernel_rfl) (by kernel_rfl) (by kernel_rfl) (fun _ _ _ h => h) (Or.inl ⟨by kernel_rfl, fun _ _ => by kernel_rfl⟩) hH5 ?_
            change wpAnyH _ _ _ _ _ _ _ (Act.put _ (some 136) _) _
            simp only [Act.put, List.setIfInBounds_toArray, List.set_cons_zero, List.set_cons_succ]
            refine wpAnyH_take (i := 27) (v := (.agg #[X1, X2])) rfl (by kernel_rfl) (by kernel_rfl) (by kernel_rfl) (fun _ _ _ h => h) (Or.inl ⟨by kernel_rfl, ?y223⟩) hH5 ?r223
            case y223 => (intro w0 hS0; (try dsimp only at hS0); go_simp)
            change wpAnyH _ _ _ _ _ _ _ (Act.put _ (some 137) _) _
            simp only [Act.put, List.setIfInBounds_toArray, List.set_cons_zero, List.set_cons_succ]
            refine wpAnyH_take (i := 28) (v := (.agg #[Z1, Z2])) rfl (by kernel_rfl) (by kernel_rfl) (by kernel_rfl) (fun _ _ _ h => h) (Or.inl ⟨by kernel_rfl, ?y224⟩) hH5 ?r224
            case y224 => (intro w0 hS0; (try dsimp only at hS0); go_simp)
            change wpAnyH _ _ _ _ _ _ _ (Act.put _ (some 138) _) _
            simp only [Act.put, List.setIfInBounds_toArray, List.set_cons_zero, List.set_cons_succ]
            refine wpAnyH_take (i := 30) (v := (.agg #[Y1, Y2])) rfl (by kernel_rfl) (by kernel_rfl) (by kernel_rfl) (fun _ _ _ h => h) (Or.inl ⟨by kernel_rfl, ?y225⟩) hH5 ?r225
            case y225 => (intro w0 hS0; (try dsimp only at hS0); go_simp)
            change wpAnyH _ _ _ _ _ _ _ (Act.put _ (some 140) _) _
            simp only [Act.put, List.setIfInBounds_toArray, List.set_cons_zero, List.set_cons_succ]
            refine wpAnyH_take (i := 31) (v := (.agg #[Z1, Z2])) rfl (by kernel_rfl) (by kernel_rfl) (by kernel_rfl) (fun _ _ _ h => h) (Or.inl ⟨by kernel_rfl, ?y226⟩) hH5 ?r226
            case y226 => (intro w0 hS0; (try dsimp only at hS0); go_simp)
            change wpAnyH _ _ _ _ _ _ _ (Act.put _ (some 141) _) _
            simp only [Act.put, List.setIfInBounds_toArray, List.set_cons_zero, List.set_cons_succ]
            refine wpAnyH_take (i := 34) (v := (.agg #[X1, X2])) rfl (by kernel_rfl) (by kernel_rfl) (by kernel_rfl) (fun _ _ _ h => h) (Or.inl ⟨by kernel_rfl, ?y227⟩) hH5 ?r227
            case y227 => (intro w0 hS0; (try dsimp only at hS0); go_simp)
            change wpAnyH _ _ _ _ _ _ _ (Act.put _ (some 144) _) _
            simp only [Act.put, List.setIfInBounds_toArray, List.set_cons_zero, List.set_cons_succ]
            refine wpAnyH_take (i := 35) (v := (.agg #[Y1, Y2])) rfl (by kernel_rfl) (by kernel_rfl) (by kernel_rfl) (fun _ _ _ h => h) (Or.inl ⟨by kernel_rfl, ?y228⟩) hH5 ?r228
            case y228 => (intro w0 hS0; (try dsimp only at hS0); go_simp)
            change wpAnyH _ _ _ _ _ _ _ (Act.put _ (some 145) _) _
            simp only [Act.put, List.setIfInBounds_toArray, List.set_cons_zero, List.set_cons_succ]
            refine wpAnyH_ready (rs := [29]) (by kernel_rfl) (by simp) ?_
            refine AllReadyH.cons rfl (fun K hK0 => ?_) AllReadyH.nil
            have hK := hK0.out
            clear hK0
            rw [if_pos (by kernel_rfl)]
            refine wp_go_call 38 #[(.agg #[X1, X2]), (.agg #[Z1, Z2])] (fun _ => by kernel_rfl) ((Add_any _ _ x z 8 _ (by exact B5.ix) (by exact B5.iz) (by decide) (by exact HF.out.1) (by exact HF.out.2.2)).mono ?k229)
            rintro e w6 ⟨v6, rfl, i6_6, hb6⟩
            have B6 := B5.step hb6 rfl
            have bl6 := begun_then bl5 hb6 rfl rfl rfl rfl
            clear B5 bl5 hb6
            refine ⟨v6, rfl, hK _ _ (B6.cells) (fun hH6 => ?_)⟩
            clear hK K hH5
            change wpAnyH _ _ _ _ _ _ _ (Act.put _ (some 139) _) _
            simp only [Act.put, List.setIfInBounds_toArray, List.set_cons_zero, List.set_cons_succ]
            refine wpAnyH_ready (rs := [32]) (by kernel_rfl) (by simp) ?_
            refine AllReadyH.cons rfl (fun K hK0 => ?_) AllReadyH.nil
            have hK := hK0.out
            clear hK0
            rw [if_pos (by kernel_rfl)]
            refine wp_go_call 38 #[(.agg #[Y1, Y2]), (.agg #[Z1, Z2])] (fun _ => by kernel_rfl) ((Add_any _ _ y z 8 _ (by exact B6.iy) (by exact B6.iz) (by decide) (by exact HF.out.2.1) (by exact HF.out.2.2)).mono ?k230)
            rintro e w7 ⟨v7, rfl, i7_7, hb7⟩
            have B7 := B6.step hb7 rfl
            have bl7 := begun_then bl6 hb7 rfl rfl rfl rfl
            have i6_7 := i6_6.step hb7 rfl
            clear B6 bl6 hb7 i6_6
            refine ⟨v7, rfl, hK _ _ (B7.cells) (fun hH7 => ?_)⟩
            clear hK K hH6
            change wpAnyH _ _ _ _ _ _ _ (Act.put _ (some 142) _) _
            simp only [Act.put, List.setIfInBounds_toArray, List.set_cons_zero, List.set_cons_succ]
            refine wpAnyH_ready (rs := [33]) (by kernel_rfl) (by simp) ?_
            refine AllReadyH.cons rfl (fun K hK0 => ?_) AllReadyH.nil
            have hK := hK0.out
            clear hK0
            rw [if_pos (by kernel_rfl)]
            refine wp_go_call 32 #[v6, v7] (fun _ => by kernel_rfl) ((cmp_is _ _ (x + z) (y + z) p 9 _ (by exact i6_7) (by exact i7_7) (by decide) (by exact (HF.out.1.add HF.out.2.2)) (by exact (HF.out.2.1.add HF.out.2.2)) (by exact HN.out.2.2.2.2.1)).mono ?k231)
            rintro e w8 ⟨rfl, hb8⟩
            have B8 := B7.step hb8 rfl
            have bl8 := begun_then bl7 hb8 rfl rfl rfl rfl
            clear B7 bl7 hb8 i6_7 i7_7
            refine ⟨(.int .i64 p), rfl, hK _ _ (B8.cells) (fun hH8 => ?_)⟩
            clear hK K hH7
            change wpAnyH _ _ _ _ _ _ _ (Act.put _ (some 143) _) _
            simp only [Act.put, List.setIfInBounds_toArray, List.set_cons_zero, List.set_cons_succ]
            refine wpAnyH_ready (rs := [36]) (by kernel_rfl) (by simp) ?_
            refine AllReadyH.cons rfl (fun K hK0 => ?_) AllReadyH.nil
            have hK := hK0.out
            clear hK0
            rw [if_pos (by kernel_rfl)]
            refine wp_go_call 32 #[(.agg #[X1, X2]), (.agg #[Y1, Y2])] (fun _ => by kernel_rfl) ((cmp_is _ _ x y p 8 _ (by exact B8.ix) (by exact B8.iy) (by decide) (by exact HF.out.1) (by exact HF.out.2.1) (by exact HN.out.1)).mono ?k232)
            rintro e w9 ⟨rfl, hb9⟩
            have B9 := B8.step hb9 rfl
            have bl9 := begun_then bl8 hb9 rfl rfl rfl rfl
            clear B8 bl8 hb9
            refine ⟨(.int .i64 p), rfl, hK _ _ (B9.cells) (fun hH9 => ?_)⟩
            clear hK K hH8
            change wpAnyH _ _ _ _ _ _ _ (Act.put _ (some 146) _) _
            simp only [Act.put, List.setIfInBounds_toArray, List.set_cons_zero, List.set_cons_succ]
            refine wpAnyH_take (i := 37) (v := (.bool false)) rfl (by kernel_rfl) (by kernel_rfl) (by kernel_rfl) (fun _ _ _ h => h) (Or.inl ⟨by kernel_rfl, fun w0 _ => Eq.trans (b := Result.ok (Next.value (.bool (p != p))) w0) (by kernel_rfl) (by rw [hne])⟩) hH9 ?_
            change wpAnyH _ _ _ _ _ _ _ (Act.put _ (some 147) _) _
            simp only [Act.put, List.setIfInBounds_toArray, List.set_cons_zero, List.set_cons_succ]
            refine wpAnyH_take (i := 38) (v := (.bool false)) rfl (by kernel_rfl) (by kernel_rfl) (by kernel_rfl) (fun _ _ _ h => h) (Or.inl ⟨by kernel_rfl, fun _ _ => by kernel_rfl⟩) hH9 ?_
            change wpAnyH _ _ _ _ _ _ _ (Act.put _ (some 148) _) _
            simp only [Act.put, List.setIfInBounds_toArray, List.set_cons_zero, List.set_cons_succ]
            refine wpAnyH_take (i := 39) (v := (.bool false)) rfl (by kernel_rfl) (by kernel_rfl) (by kernel_rfl) (fun _ _ _ h => h) (Or.inl ⟨by kernel_rfl, fun _ _ => by kernel_rfl⟩) hH9 ?_
            change wpAnyH _ _ _ _ _ _ _ (Act.put _ (some 149) _) _
            simp only [Act.put, List.setIfInBounds_toArray, List.set_cons_zero, List.set_cons_succ]
            refine wpAnyH_take (i := 40) (v := (.agg #[Z1, Z2])) rfl (by kernel_rfl) (by kernel_rfl) (by kernel_rfl) (fun _ _ _ h => h) (Or.inl ⟨by kernel_rfl, ?y233⟩) hH9 ?r233
            case y233 => (intro w0 hS0; (try dsimp only at hS0); go_simp)
            change wpAnyH _ _ _ _ _ _ _ (Act.put _ (some 150) _) _
            simp only [Act.put, List.setIfInBounds_toArray, List.set_cons_zero, List.set_cons_succ]
            refine wpAnyH_ready (rs := [41]) (by kernel_rfl) (by simp) ?_
            refine AllReadyH.cons rfl (fun K hK0 => ?_) AllReadyH.nil
            have hK := hK0.out
            clear hK0
            rw [if_pos (by kernel_rfl)]
            refine wp_go_call 22 #[(.agg #[Z1, Z2])] (fun _ => by kernel_rfl) ((sign_is _ z s 8 _ (by exact B9.iz) (by decide) (by exact HF.out.2.2) (by exact HN.out.2.2.2.2.2.2)).mono ?k234)
            rintro e w10 ⟨rfl, hb10⟩
            have B10 := B9.step hb10 rfl
            have bl10 := begun_then bl9 hb10 rfl rfl rfl rfl
            clear B9 bl9 hb10
            refine ⟨(.int .i64 s), rfl, hK _ _ (B10.cells) (fun hH10 => ?_)⟩
            clear hK K hH9
            change wpAnyH _ _ _ _ _ _ _ (Act.put _ (some 151) _) _
            simp only [Act.put, List.setIfInBounds_toArray, List.set_cons_zero, List.set_cons_succ]
            refine wpAnyH_take (i := 42) (v := (.bool false)) rfl (by kernel_rfl) (by kernel_rfl) (by kernel_rfl) (fun _ _ _ h => h) (Or.inl ⟨by kernel_rfl, fun w0 _ => Eq.trans (b := Result.ok (Next.value (.bool (decide ((0 : Int) < s)))) w0) (by kernel_rfl) (by rw [ds])⟩) hH10 ?_
            change wpAnyH _ _ _ _ _ _ _ (Act.put _ (some 152) _) _
            simp only [Act.put, List.setIfInBounds_toArray, List.set_cons_zero, List.set_cons_succ]
            refine wpAnyH_take (i := 43) (v := (.bool false)) rfl (by kernel_rfl) (by kernel_rfl) (by kernel_rfl) (fun _ _ _ h => h) (Or.inl ⟨by kernel_rfl, fun _ _ => by kernel_rfl⟩) hH10 ?_
            change wpAnyH _ _ _ _ _ _ _ (Act.put _ (some 153) _) _
            simp only [Act.put, List.setIfInBounds_toArray, List.set_cons_zero, List.set_cons_succ]
            refine wpAnyH_take (i := 44) (v := undef) rfl (by kernel_rfl) (by kernel_rfl) (by kernel_rfl) (fun _ _ _ h => h) (Or.inr ⟨by kernel_rfl, rfl⟩) hH10 ?_
            change wpAnyH _ _ _ _ _ _ _ (Act.put _ (some 154) _) _
            simp only [Act.put, List.setIfInBounds_toArray, List.set_cons_zero, List.set_cons_succ]
            refine wpAnyH_take (i := 45) (v := undef) rfl (by kernel_rfl) (by kernel_rfl) (by kernel_rfl) (fun _ _ _ h => h) (Or.inr ⟨by kernel_rfl, rfl⟩) hH10 ?_
            change wpAnyH _ _ _ _ _ _ _ (Act.put _ (some 155) _) _
            simp only [Act.put, List.setIfInBounds_toArray, List.set_cons_zero, List.set_cons_succ]
            refine wpAnyH_take (i := 46) (v := undef) rfl (by kernel_rfl) (by kernel_rfl) (by kernel_rfl) (fun _ _ _ h => h) (Or.inr ⟨by kernel_rfl, rfl⟩) hH10 ?_
            change wpAnyH _ _ _ _ _ _ _ (Act.put _ (some 156) _) _
            simp only [Act.put, List.setIfInBounds_toArray, List.set_cons_zero, List.set_cons_succ]
            refine wpAnyH_take (i := 47) (v := undef) rfl (by kernel_rfl) (by kernel_rfl) (by kernel_rfl) (fun _ _ _ h => h) (Or.inr ⟨by kernel_rfl, rfl⟩) hH10 ?_
            change wpAnyH _ _ _ _ _ _ _ (Act.put _ (some 157) _) _
            simp only [Act.put, List.setIfInBounds_toArray, List.set_cons_zero, List.set_cons_succ]
            refine wpAnyH_take (i := 48) (v := undef) rfl (by kernel_rfl) (by kernel_rfl) (by kernel_rfl) (fun _ _ _ h => h) (Or.inr ⟨by kernel_rfl, rfl⟩) hH10 ?_
            change wpAnyH _ _ _ _ _ _ _ (Act.put _ (some 158) _) _
            simp only [Act.put, List.setIfInBounds_toArray, List.set_cons_zero, List.set_cons_succ]
            refine wpAnyH_take (i := 49) (v := undef) rfl (by kernel_rfl) (by kernel_rfl) (by kernel_rfl) (fun _ _ _ h => h) (Or.inr ⟨by kernel_rfl, rfl⟩) hH10 ?_
            change wpAnyH _ _ _ _ _ _ _ (Act.put _ (some 159) _) _
            simp only [Act.put, List.setIfInBounds_toArray, List.set_cons_zero, List.set_cons_succ]
            refine wpAnyH_take (i := 50) (v := undef) rfl (by kernel_rfl) (by kernel_rfl) (by kernel_rfl) (fun _ _ _ h => h) (Or.inr ⟨by kernel_rfl, rfl⟩) hH10 ?_
            change wpAnyH _ _ _ _ _ _ _ (Act.put _ (some 160) _) _
            simp only [Act.put, List.setIfInBounds_toArray, List.set_cons_zero, List.set_cons_succ]
            refine wpAnyH_take (i := 51) (v := undef) rfl (by kernel_rfl) (by kernel_rfl) (by kernel_rfl) (fun _ _ _ h => h) (Or.inr ⟨by kernel_rfl, rfl⟩) hH10 ?_
            change wpAnyH _ _ _ _ _ _ _ (Act.put _ (some 161) _) _
            simp only [Act.put, List.setIfInBounds_toArray, List.set_cons_zero, List.set_cons_succ]
            refine wpAnyH_take (i := 52) (v := undef) rfl (by kernel_rfl) (by kernel_rfl) (by kernel_rfl) (fun _ _ _ h => h) (Or.inr ⟨by kernel_rfl, rfl⟩) hH10 ?_
            change wpAnyH _ _ _ _ _ _ _ (Act.put _ (some 162) _) _
            simp only [Act.put, List.setIfInBounds_toArray, List.set_cons_zero, List.set_cons_succ]
            refine wpAnyH_take (i := 53) (v := undef) rfl (by kernel_rfl) (by kernel_rfl) (by kernel_rfl) (fun _ _ _ h => h) (Or.inr ⟨by kernel_rfl, rfl⟩) hH10 ?_
            change wpAnyH _ _ _ _ _ _ _ (Act.put _ (some 163) _) _
            simp only [Act.put, List.setIfInBounds_toArray, List.set_cons_zero, List.set_cons_succ]
            refine wpAnyH_take (i := 54) (v := undef) rfl (by kernel_rfl) (by kernel_rfl) (by kernel_rfl) (fun _ _ _ h => h) (Or.inr ⟨by kernel_rfl, rfl⟩) hH10 ?_
            change wpAnyH _ _ _ _ _ _ _ (Act.put _ (some 164) _) _
            simp only [Act.put, List.setIfInBounds_toArray, List.set_cons_zero, List.set_cons_succ]
            refine wpAnyH_take (i := 55) (v := (Value.bool false)) rfl (by kernel_rfl) (by kernel_rfl) (by kernel_rfl) (fun _ _ _ h => h) (Or.inl ⟨by kernel_rfl, fun _ _ => by kernel_rfl⟩) hH10 ?_
            change wpAnyH _ _ _ _ _ _ _ (Act.put _ (some 165) _) _
            simp only [Act.put, List.setIfInBounds_toArray, List.set_cons_zero, List.set_cons_succ]
            refine wpAnyH_take (i := 56) (v := (Value.bool false)) rfl (by kernel_rfl) (by kernel_rfl) (by kernel_rfl) (fun _ _ _ h => h) (Or.inl ⟨by kernel_rfl, fun _ _ => by kernel_rfl⟩) hH10 ?_
            change wpAnyH _ _ _ _ _ _ _ (Act.put _ (some 166) _) _
            simp only [Act.put, List.setIfInBounds_toArray, List.set_cons_zero, List.set_cons_succ]
            refine wpAnyH_done (by kernel_rfl) ?_ _
            go_wp2_with fail
            go_meet
            exact ⟨rfl, B10, bl10⟩
        case rest =>
          obtain ⟨rfl, _, blt⟩ := hcut
          go_wp2_with fail
          refine (awake_any _).mono ?_
          rintro e w9 ⟨rfl, hb9⟩
          go_wp2
          go_ret
          exact ⟨rfl, below_then blt hb9⟩
end Go.Proofs.Ytodakmjalocfaaa
