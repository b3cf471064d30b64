/- The law IntegerDivides: it answers true. -/
import Derived.Test.YtagocllbfbbneaaRingBase
import Derived.Test.YtagocllbfbbneaaDivsBoth
import Derived.Test.YtagocllbfbbneaaMixDraw
namespace Go.Proofs.Ytagocllbfbbneaa.RK
open Go.RowKit
set_option linter.unusedSimpArgs false

/-- The three variables of the law hold three integers of at most 8 limbs. -/
def Xyz (w : World) (s8 s9 s10 : Value) (wx : World) : Prop :=
  ∃ (r8 r9 r10 : Nat) (X1 X2 Y1 Y2 Z1 Z2 : Value) (x y z : Int), s8 = .pointer (some ⟨r8, 0, none⟩) ∧ s9 = .pointer (some ⟨r9, 0, none⟩) ∧ s10 = .pointer (some ⟨r10, 0, none⟩) ∧
    XYZ wx r8 r9 r10 X1 X2 Y1 Y2 Z1 Z2 x y z ∧ Below w.heap.size w wx ∧ Fits x 8 ∧ Fits y 8 ∧ Fits z 8

theorem fits_of {xs : List Nat} {s : Bool} (ho : Lm.Ok B32 xs) (hl : xs.length ≤ 8) : Fits (ofSign s (Lm.val B32 xs)) 8 := by
  have h := Nat.lt_of_lt_of_le (Lm.val_lt ho) (Nat.pow_le_pow_right B32_pos hl)
  unfold Fits ofSign
  cases s <;> simp <;> exact h

/-- Three new boxes. -/
structure Boxes (w W : World) (a1 a2 b1 b2 c1 c2 : Value) : Prop where
  a : Two W w.heap.size a1 a2
  b : Two W (w.heap.size + 1) b1 b2
  c : Two W (w.heap.size + 1 + 1) c1 c2
  below : Below w.heap.size w W
  size : w.heap.size + 1 + 1 < W.heap.size

theorem boxes3 (w : World) (a1 a2 b1 b2 c1 c2 : Value) (t : TypeId) :
    Boxes w (((w.alloc (.cells #[a1, a2] t)).alloc (.cells #[b1, b2] t)).alloc (.cells #[c1, c2] t)).drew a1 a2 b1 b2 c1 c2 := by
  have ha := ((Two.new w a1 a2 t).alloc (by simp) (.cells #[b1, b2] t)).alloc (by simp; omega) (.cells #[c1, c2] t)
  have hb := (Two.new (w.alloc (.cells #[a1, a2] t)) b1 b2 t).alloc (by simp) (.cells #[c1, c2] t)
  have hc := Two.new ((w.alloc (.cells #[a1, a2] t)).alloc (.cells #[b1, b2] t)) c1 c2 t
  rw [size_alloc] at hb
  rw [size_alloc, size_alloc] at hc
  have hl := ((((Below.refl _ _).alloc (Nat.le_refl _) (.cells #[a1, a2] t)).alloc (by simp) (.cells #[b1, b2] t)).alloc (by simp; omega) (.cells #[c1, c2] t) : Below w.heap.size w _)
  exact ⟨ha, hb, hc, hl.drew, by simp⟩

theorem xyz_of (w w2 W : World) (X1 X2 Y1 Y2 Z1 Z2 : Value) (x y z : Int) (r8 r9 r10 : Nat) (hX : IntAt w2 (.agg #[X1, X2]) x) (hY : IntAt w2 (.agg #[Y1, Y2]) y) (hZ : IntAt w2 (.agg #[Z1, Z2]) z) (hb : Below w.heap.size w w2)
    (hf : Fits x 8 ∧ Fits y 8 ∧ Fits z 8) (h8 : Two W r8 X1 X2) (h9 : Two W r9 Y1 Y2) (h10 : Two W r10 Z1 Z2) (hl : Below w2.heap.size w2 W) (l8 : r8 < W.heap.size) (l9 : r9 < W.heap.size) (l10 : r10 < W.heap.size) :
    Xyz w (.pointer (some ⟨r8, 0, none⟩)) (.pointer (some ⟨r9, 0, none⟩)) (.pointer (some ⟨r10, 0, none⟩)) W :=
  ⟨r8, r9, r10, X1, X2, Y1, Y2, Z1, Z2, x, y, z, rfl, rfl, rfl, ⟨l8, l9, l10, h8, h9, h10, hX.step hl rfl, hY.step hl rfl, hZ.step hl rfl⟩, below_then hb hl, hf⟩

theorem mrow3 (w : World) (s1 s2 s3 : Bool) (A1 A2 A3 : Option Addr) (n1 n2 n3 c1 c2 c3 : Nat) (t : TypeId) :
    NRow (w.alloc (.cells #[.bool s1, .slice A1 n1 c1, .bool s2, .slice A2 n2 c2, .bool s3, .slice A3 n3 c3] t)) w.heap.size [⟨s1, A1, n1, c1⟩, ⟨s2, A2, n2, c2⟩, ⟨s3, A3, n3, c3⟩] :=
  ⟨by simp, fun i x hi => by
    match i, hi with
    | 0, hi => simp at hi; subst hi; constructor <;> go_simp
    | 1, hi => simp at hi; subst hi; constructor <;> go_simp
    | 2, hi => simp at hi; subst hi; constructor <;> go_simp⟩
theorem short3 (M : Nat) (s1 : Bool) (A1 : Option Addr) (n1 c1 : Nat) (s2 : Bool) (A2 : Option Addr) (n2 c2 : Nat) (s3 : Bool) (A3 : Option Addr) (n3 c3 : Nat) (w : World) (b : Bool) (hb : decide (n1 ≤ M ∧ n2 ≤ M ∧ n3 ≤ M) = b) :
    Calls Try.prog 14 #[.int .i64 (M : Int), .slice (some ⟨w.heap.size, 0, none⟩) 3 3] (w.alloc (.cells #[.bool s1, .slice A1 n1 c1, .bool s2, .slice A2 n2 c2, .bool s3, .slice A3 n3 c3] 24)) fun e w' => IsBool (w.alloc (.cells #[.bool s1, .slice A1 n1 c1, .bool s2, .slice A2 n2 c2, .bool s3, .slice A3 n3 c3] 24)) w' b e := by
  have h := shortN_any w.heap.size M [⟨s1, A1, n1, c1⟩, ⟨s2, A2, n2, c2⟩, ⟨s3, A3, n3, c3⟩] _ (mrow3 w s1 s2 s3 A1 A2 A3 n1 n2 n3 c1 c2 c3 24) (by simp)
  rw [show decide (AllS M [⟨s1, A1, n1, c1⟩, ⟨s2, A2, n2, c2⟩, ⟨s3, A3, n3, c3⟩]) = b by
    rw [← hb]
    refine decide_eq_decide.2 ⟨fun k => ⟨k _ (List.mem_cons_self ..), k _ (List.mem_cons_of_mem _ (List.mem_cons_self ..)), k _ (List.mem_cons_of_mem _ (List.mem_cons_of_mem _ (List.mem_cons_self ..)))⟩, fun k y hy => ?_⟩
    simp at hy
    rcases hy with rfl | rfl | rfl
    · exact k.1
    · exact k.2.1
    · exact k.2.2] at h
  exact h
theorem agg_two {b : Bool} {A : Option Addr} {n c : Nat} {X1 X2 : Value} (h : Value.agg #[X1, X2] = .agg #[.bool b, .slice A n c]) : X1 = .bool b ∧ X2 = .slice A n c := by
  simpa using h

set_option maxRecDepth 100000 in
set_option maxHeartbeats 8000000 in
theorem divs_short (s1 : Bool) (A1 : Option Addr) (c1 : Nat) (xs1 : List Nat) (s2 : Bool) (A2 : Option Addr) (c2 : Nat) (xs2 : List Nat) (s3 : Bool) (A3 : Option Addr) (c3 : Nat) (xs3 : List Nat) (w : World)
    (h1 : Plain w A1 c1 xs1) (h2 : Plain w A2 c2 xs2) (h3 : Plain w A3 c3 xs3) (l6 : xs1.length ≤ 6 ∧ xs2.length ≤ 6 ∧ xs3.length ≤ 6) :
    Calls Try.prog 11 #[.agg #[.bool s1, .slice A1 xs1.length c1], .agg #[.bool s2, .slice A2 xs2.length c2], .agg #[.bool s3, .slice A3 xs3.length c3]] w fun e w' => IsBool w w' true e := by
  have hs := ringAt_size w s1 (.slice A1 xs1.length c1) s2 (.slice A2 xs2.length c2) s3 (.slice A3 xs3.length c3)
  have hb0 := ringAt_below w s1 (.slice A1 xs1.length c1) s2 (.slice A2 xs2.length c2) s3 (.slice A3 xs3.length c3)
  have hsh := short3 6 s1 A1 xs1.length c1 s2 A2 xs2.length c2 s3 A3 xs3.length c3 (ringAt w s1 (.slice A1 xs1.length c1) s2 (.slice A2 xs2.length c2) s3 (.slice A3 xs3.length c3)) true (decide_eq_true l6)
  rw [hs] at hsh
  clear l6
  have hb1 := hb0.alloc hb0.size (.cells #[.bool s1, .slice A1 xs1.length c1, .bool s2, .slice A2 xs2.length c2, .bool s3, .slice A3 xs3.length c3] 24)
  have hx := ((((Two.new w (.bool s1) (.slice A1 xs1.length c1) 24).alloc (by simp) (.cells #[.bool s2, .slice A2 xs2.length c2] 24)).alloc (by simp; omega) (.cells #[.bool s3, .slice A3 xs3.length c3] 24)).alloc (by simp; omega) (.cells #[.bool s1, .slice A1 xs1.length c1, .bool s2, .slice A2 xs2.length c2, .bool s3, .slice A3 xs3.length c3] 24))
  have hy := ((Two.new (w.alloc (.cells #[.bool s1, .slice A1 xs1.length c1] 24)) (.bool s2) (.slice A2 xs2.length c2) 24).alloc (by simp) (.cells #[.bool s3, .slice A3 xs3.length c3] 24)).alloc (by simp) (.cells #[.bool s1, .slice A1 xs1.length c1, .bool s2, .slice A2 xs2.length c2, .bool s3, .slice A3 xs3.length c3] 24)
  have hz := (Two.new ((w.alloc (.cells #[.bool s1, .slice A1 xs1.length c1] 24)).alloc (.cells #[.bool s2, .slice A2 xs2.length c2] 24)) (.bool s3) (.slice A3 xs3.length c3) 24).alloc (by simp) (.cells #[.bool s1, .slice A1 xs1.length c1, .bool s2, .slice A2 xs2.length c2, .bool s3, .slice A3 xs3.length c3] 24)
  rw [size_alloc] at hy
  rw [size_alloc, size_alloc] at hz
  have hsz : w.heap.size + 4 = ((ringAt w s1 (.slice A1 xs1.length c1) s2 (.slice A2 xs2.length c2) s3 (.slice A3 xs3.length c3)).alloc (.cells #[.bool s1, .slice A1 xs1.length c1, .bool s2, .slice A2 xs2.length c2, .bool s3, .slice A3 xs3.length c3] 24)).heap.size := by rw [size_alloc, hs]
  have H := Lib.hid (And.intro hsh (And.intro hb1 (And.intro h1 (And.intro h2 (And.intro h3 (And.intro hx (And.intro hy (And.intro hz hsz))))))))
  have HP := Lib.hid (And.intro h1 (And.intro h2 h3))
  clear hb0 hsh hb1 h1 h2 h3 hx hy hz hsz hs
  go_enter Try.func11, Try.ntmps11
  go_wp2_with fail
  refine H.out.1.mono ?_
  rintro e w1 ⟨rfl, hb1⟩
  have hb01 := below_then H.out.2.1 hb1
  have hsz1 := H.out.2.2.2.2.2.2.2.2
  obtain ⟨x0, x1⟩ := H.out.2.2.2.2.2.1.step hb1 rfl (Nat.lt_of_lt_of_eq (m := w.heap.size + 4) (by omega) hsz1)
  obtain ⟨y0, y1⟩ := H.out.2.2.2.2.2.2.1.step hb1 rfl (Nat.lt_of_lt_of_eq (m := w.heap.size + 4) (by omega) hsz1)
  obtain ⟨z0, z1⟩ := H.out.2.2.2.2.2.2.2.1.step hb1 rfl (Nat.lt_of_lt_of_eq (m := w.heap.size + 4) (by omega) hsz1)
  have hba : Below w1.heap.size w1 (w1.alloc (.cells #[.bool s1, .slice A1 xs1.length c1, .bool s2, .slice A2 xs2.length c2, .bool s3, .slice A3 xs3.length c3] 24)) := (Below.refl _ _).alloc (Nat.le_refl _) _
  have hb0a := below_then hb01 hba
  have hm := lmade_any w1.heap.size s1 A1 c1 xs1 s2 A2 c2 xs2 s3 A3 c3 xs3 _ (Three.new w1 s1 A1 xs1.length c1 s2 A2 xs2.length c2 s3 A3 xs3.length c3 24) (H.out.2.2.1.step hb0a rfl) (H.out.2.2.2.1.step hb0a rfl) (H.out.2.2.2.2.1.step hb0a rfl)
  have HM := Lib.hid (And.intro hm hb0a)
  clear hm hb0a hsz1
  go_wp2_with fail
  refine HM.out.1.mono ?_
  rintro e w2 ⟨⟨g, cc, u1, v1, u2, v2, u3, v3, rfl, hcc, hlt, f0, f1, f2, f3, f4, f5, ⟨b1, B1, k1, d1, rfl, rfl, _, hi1⟩, ⟨b2, B2, k2, d2, rfl, rfl, _, hi2⟩, ⟨b3, B3, k3, d3, rfl, rfl, _, hi3⟩⟩, hb2⟩
  have hb02 := below_then HM.out.2 hb2
  have HI := Lib.hid (And.intro hi1 (And.intro hi2 (And.intro hi3 (And.intro hb02 (And.intro (fits_of (s := s1) HP.out.1.2.1 HP.out.1.2.2.1) (And.intro (fits_of (s := s2) HP.out.2.1.2.1 HP.out.2.1.2.2.1) (fits_of (s := s3) HP.out.2.2.2.1 HP.out.2.2.2.2.1)))))))
  clear hi1 hi2 hi3 hb02 x0 x1 y0 y1 z0 z1 hb1 hb01 hba
  have t0 : Three w2 g b1 B1 k1 d1 b2 B2 k2 d2 b3 B3 k3 d3 := ⟨hlt, f0, f1, f2, f3, f4, f5⟩
  have t1 := fun o1 : Obj => t0.step ((Below.refl w2.heap.size w2).alloc (Nat.le_refl _) o1) rfl
  have t2 := fun o1 o2 : Obj => (t1 o1).step ((Below.refl _ (w2.alloc o1)).alloc (Nat.le_refl _) o2) rfl
  have t3 := fun o1 o2 o3 : Obj => (t2 o1 o2).step ((Below.refl _ ((w2.alloc o1).alloc o2)).alloc (Nat.le_refl _) o3) rfl
  have a10 := fun o1 : Obj => (t1 o1).a0
  have a11 := fun o1 : Obj => (t1 o1).a1
  have a12 := fun o1 : Obj => (t1 o1).a2
  have a13 := fun o1 : Obj => (t1 o1).a3
  have a14 := fun o1 : Obj => (t1 o1).a4
  have a15 := fun o1 : Obj => (t1 o1).a5
  have a20 := fun o1 o2 : Obj => (t2 o1 o2).a0
  have a21 := fun o1 o2 : Obj => (t2 o1 o2).a1
  have a22 := fun o1 o2 : Obj => (t2 o1 o2).a2
  have a23 := fun o1 o2 : Obj => (t2 o1 o2).a3
  have a24 := fun o1 o2 : Obj => (t2 o1 o2).a4
  have a25 := fun o1 o2 : Obj => (t2 o1 o2).a5
  have a30 := fun o1 o2 o3 : Obj => (t3 o1 o2 o3).a0
  have a31 := fun o1 o2 o3 : Obj => (t3 o1 o2 o3).a1
  have a32 := fun o1 o2 o3 : Obj => (t3 o1 o2 o3).a2
  have a33 := fun o1 o2 o3 : Obj => (t3 o1 o2 o3).a3
  have a34 := fun o1 o2 o3 : Obj => (t3 o1 o2 o3).a4
  have a35 := fun o1 o2 o3 : Obj => (t3 o1 o2 o3).a5
  clear t1 t2 t3
  clear t0
  go_wp2_with fail
  go_upto_region 4 with fail
  go_cut [8, 9, 10] (fun s8 s9 s10 wx => ∃ W : World, W = wx ∧ Xyz w s8 s9 s10 W)
  case first => as_aux_lemma =>
    go_region
    all_goals go_wp2_with fail
    all_goals go_meet
    all_goals (first
      | (have B := boxes3 w2 (.bool b1) (.slice B1 k1 d1) (.bool b2) (.slice B2 k2 d2) (.bool b3) (.slice B3 k3 d3) 28; exact ⟨_, rfl, xyz_of w w2 _ _ _ _ _ _ _ _ _ _ _ _ _ HI.out.1 HI.out.2.1 HI.out.2.2.1 HI.out.2.2.2.1 HI.out.2.2.2.2 B.a B.b B.c B.below (Nat.lt_of_le_of_lt (by omega) B.size) (Nat.lt_of_le_of_lt (by omega) B.size) B.size⟩)
      | (have B := boxes3 w2 (.bool b1) (.slice B1 k1 d1) (.bool b3) (.slice B3 k3 d3) (.bool b2) (.slice B2 k2 d2) 28; exact ⟨_, rfl, xyz_of w w2 _ _ _ _ _ _ _ _ _ _ _ _ _ HI.out.1 HI.out.2.1 HI.out.2.2.1 HI.out.2.2.2.1 HI.out.2.2.2.2 B.a B.c B.b B.below (Nat.lt_of_le_of_lt (by omega) B.size) B.size (Nat.lt_of_le_of_lt (by omega) B.size)⟩)
      | (have B := boxes3 w2 (.bool b2) (.slice B2 k2 d2) (.bool b1) (.slice B1 k1 d1) (.bool b3) (.slice B3 k3 d3) 28; exact ⟨_, rfl, xyz_of w w2 _ _ _ _ _ _ _ _ _ _ _ _ _ HI.out.1 HI.out.2.1 HI.out.2.2.1 HI.out.2.2.2.1 HI.out.2.2.2.2 B.b B.a B.c B.below (Nat.lt_of_le_of_lt (by omega) B.size) (Nat.lt_of_le_of_lt (by omega) B.size) B.size⟩)
      | (have B := boxes3 w2 (.bool b2) (.slice B2 k2 d2) (.bool b3) (.slice B3 k3 d3) (.bool b1) (.slice B1 k1 d1) 28; exact ⟨_, rfl, xyz_of w w2 _ _ _ _ _ _ _ _ _ _ _ _ _ HI.out.1 HI.out.2.1 HI.out.2.2.1 HI.out.2.2.2.1 HI.out.2.2.2.2 B.c B.a B.b B.below B.size (Nat.lt_of_le_of_lt (by omega) B.size) (Nat.lt_of_le_of_lt (by omega) B.size)⟩)
      | (have B := boxes3 w2 (.bool b3) (.slice B3 k3 d3) (.bool b1) (.slice B1 k1 d1) (.bool b2) (.slice B2 k2 d2) 28; exact ⟨_, rfl, xyz_of w w2 _ _ _ _ _ _ _ _ _ _ _ _ _ HI.out.1 HI.out.2.1 HI.out.2.2.1 HI.out.2.2.2.1 HI.out.2.2.2.2 B.b B.c B.a B.below (Nat.lt_of_le_of_lt (by omega) B.size) B.size (Nat.lt_of_le_of_lt (by omega) B.size)⟩)
      | (have B := boxes3 w2 (.bool b3) (.slice B3 k3 d3) (.bool b2) (.slice B2 k2 d2) (.bool b1) (.slice B1 k1 d1) 28; exact ⟨_, rfl, xyz_of w w2 _ _ _ _ _ _ _ _ _ _ _ _ _ HI.out.1 HI.out.2.1 HI.out.2.2.1 HI.out.2.2.2.1 HI.out.2.2.2.2 B.c B.b B.a B.below B.size (Nat.lt_of_le_of_lt (by omega) B.size) (Nat.lt_of_le_of_lt (by omega) B.size)⟩))
  case rest =>
    obtain ⟨W0, rfl, r8, r9, r10, X1, X2, Y1, Y2, Z1, Z2, x, y, z, rfl, rfl, rfl, Bs, bls, HF0⟩ := hcut
    clear HI HP HM H
    obtain ⟨xb, xA, xc, xz, xe, xg, xd⟩ := Bs.ix
    obtain ⟨yb, yA, yc, yz, ye, yg, yd⟩ := Bs.iy
    obtain ⟨zb, zA, zc, zz, ze, zg, zd⟩ := Bs.iz
    obtain ⟨rfl, rfl⟩ := agg_two xe
    obtain ⟨rfl, rfl⟩ := agg_two ye
    obtain ⟨rfl, rfl⟩ := agg_two ze
    have hv0 : MVars W0 [⟨true, r10, zb, zA, zz.length, zc, z, 0⟩, ⟨true, r9, yb, yA, yz.length, yc, y, 0⟩, ⟨true, r8, xb, xA, xz.length, xc, x, 0⟩] :=
      (((MVars.nil W0).cons (t := ⟨true, r8, xb, xA, xz.length, xc, x, 0⟩) ⟨fun _ => Bs.lx, fun _ => Bs.cx, show IntAt _ _ _ from ⟨xb, xA, xc, xz, rfl, xg, xd⟩⟩).cons (t := ⟨true, r9, yb, yA, yz.length, yc, y, 0⟩) ⟨fun _ => Bs.ly, fun _ => Bs.cy, show IntAt _ _ _ from ⟨yb, yA, yc, yz, rfl, yg, yd⟩⟩).cons (t := ⟨true, r10, zb, zA, zz.length, zc, z, 0⟩) ⟨fun _ => Bs.lz, fun _ => Bs.cz, show IntAt _ _ _ from ⟨zb, zA, zc, zz, rfl, zg, zd⟩⟩
    have HC := Lib.hid (And.intro hv0 bls)
    clear hv0 bls Bs xe ye ze xg xd yg yd zg zd
    by_cases h0 : y = 0
    · have HV : Hid ((∀ v v2 w, IntAt w v x → IntAt w v2 y → Calls Try.prog 30 #[v, v2] w fun e w' => IsDivE w w' 0 0 6 e) ∧ (∀ v w, IntAt w v y → Calls Try.prog 22 #[v] w fun e w' => IsNum w w' 0 e)) := Lib.hid (by subst h0; exact ⟨fun v v2 w h h2 => divide_none v v2 x w h h2, sign_40 0 0 (Nat.pow_pos B32_pos) rfl⟩)
      clear h0 HF0
      obtain ⟨px0, px1⟩ : Two W0 r8 (.bool xb) (.slice xA xz.length xc) := (HC.out.1 2 _ rfl).two rfl
      obtain ⟨py0, py1⟩ : Two W0 r9 (.bool yb) (.slice yA yz.length yc) := (HC.out.1 1 _ rfl).two rfl
      go_wp2_with fail
      refine (HV.out.1 _ _ _ ((HC.out.1 2 _ rfl).at_) ((HC.out.1 1 _ rfl).at_)).mono ?_
      rintro e wq1 ⟨qv1, rv1, rfl, ⟨qb1, qA1, qc1, qs1, rfl, qg1, ql1⟩, ⟨rb1, rA1, rc1, rs1, rfl, rg1, rl1⟩, hb1⟩
      have hv1 := (((((HC.out.1.step hb1 rfl).told0 rg1 rl1).told0 qg1 ql1).laid 28).swap).laid 28
      rw [size_alloc] at hv1
      have hl1 : Below w.heap.size w ((wq1.alloc (.cells #[.bool qb1, .slice qA1 qs1.length qc1] 28)).alloc (.cells #[.bool rb1, .slice rA1 rs1.length rc1] 28)) := (((below_then HC.out.2 hb1).alloc (Nat.le_trans HC.out.2.size hb1.size) (.cells #[.bool qb1, .slice qA1 qs1.length qc1] 28)).alloc (Nat.le_trans (Nat.le_trans HC.out.2.size hb1.size) (by simp)) (.cells #[.bool rb1, .slice rA1 rs1.length rc1] 28))
      obtain ⟨Wq1, hW1⟩ : ∃ W : World, W = (wq1.alloc (.cells #[.bool qb1, .slice qA1 qs1.length qc1] 28)).alloc (.cells #[.bool rb1, .slice rA1 rs1.length rc1] 28) := ⟨_, rfl⟩
      obtain ⟨rq1, hrq1⟩ : ∃ r : Nat, r = wq1.heap.size := ⟨_, rfl⟩
      obtain ⟨rr1, hrr1⟩ : ∃ r : Nat, r = wq1.heap.size + 1 := ⟨_, rfl⟩
      rw [← hW1] at hv1 hl1
      rw [← hrr1] at hv1
      rw [← hrq1] at hv1
      have HC1 := Lib.hid (And.intro hv1 hl1)
      have HW1 := Lib.hid hW1
      have HRq1 := Lib.hid hrq1
      have HRr1 := Lib.hid hrr1
      clear px0 px1 py0 py1
      clear hv1 hl1 hW1 hb1 hrq1 qg1 ql1 hrr1 rg1 rl1 HC
      go_upto_region 6 with fail
      rw [← HW1.out]
      rw [← HRr1.out]
      rw [← HRq1.out]
      clear HW1 HRq1 HRr1
      obtain ⟨py0, py1⟩ : Two Wq1 r9 (.bool yb) (.slice yA yz.length yc) := (HC1.out.1 3 _ rfl).two rfl
      go_wp2_with fail
      refine (HV.out.2 _ _ ((HC1.out.1 3 _ rfl).at_)).mono ?_
      rintro e wq2 ⟨rfl, hb2⟩
      have HC2 := Lib.hid (And.intro (HC1.out.1.step hb2 rfl) (below_then HC1.out.2 hb2))
      clear py0 py1
      clear hb2 HC1
      go_wp2_with fail
      refine (awake_any _).mono ?_
      rintro e wq3 ⟨rfl, hb3⟩
      have HC3 := Lib.hid (And.intro (HC2.out.1.step hb3 rfl) (below_then HC2.out.2 hb3))
      clear hb3 HC2
      go_wp2
      go_ret
      exact ⟨rfl, HC3.out.2⟩
    · obtain ⟨q, r, p, ra, ya, g, m1, n1, a, b, k, za, q4, u4, q5, v5, q6, t6, ey, er, ex, e4, eu, ev, et, hd, hey, her, hz⟩ := divs_facts x y z HF0.1 HF0.2.1 HF0.2.2 h0
      have hne : (ey == 0) = false := by rw [beq_eq_false_iff_ne]; exact hey
      have HER := Lib.hid her
      have HZ := Lib.hid hz
      clear h0 HF0 her hz
      obtain ⟨px0, px1⟩ : Two W0 r8 (.bool xb) (.slice xA xz.length xc) := (HC.out.1 2 _ rfl).two rfl
      obtain ⟨py0, py1⟩ : Two W0 r9 (.bool yb) (.slice yA yz.length yc) := (HC.out.1 1 _ rfl).two rfl
      go_wp2_with fail
      refine (hd.out.d1 _ _ _ ((HC.out.1 2 _ rfl).at_) ((HC.out.1 1 _ rfl).at_)).mono ?_
      rintro e wq4 ⟨qv4, rv4, rfl, ⟨qb4, qA4, qc4, qs4, rfl, qg4, ql4⟩, ⟨rb4, rA4, rc4, rs4, rfl, rg4, rl4⟩, hb4⟩
      have hv4 := (((((HC.out.1.step hb4 rfl).told0 rg4 rl4).told0 qg4 ql4).laid 28).swap).laid 28
      rw [size_alloc] at hv4
      have hl4 : Below w.heap.size w ((wq4.alloc (.cells #[.bool qb4, .slice qA4 qs4.length qc4] 28)).alloc (.cells #[.bool rb4, .slice rA4 rs4.length rc4] 28)) := (((below_then HC.out.2 hb4).alloc (Nat.le_trans HC.out.2.size hb4.size) (.cells #[.bool qb4, .slice qA4 qs4.length qc4] 28)).alloc (Nat.le_trans (Nat.le_trans HC.out.2.size hb4.size) (by simp)) (.cells #[.bool rb4, .slice rA4 rs4.length rc4] 28))
      obtain ⟨Wq4, hW4⟩ : ∃ W : World, W = (wq4.alloc (.cells #[.bool qb4, .slice qA4 qs4.length qc4] 28)).alloc (.cells #[.bool rb4, .slice rA4 rs4.length rc4] 28) := ⟨_, rfl⟩
      obtain ⟨rq4, hrq4⟩ : ∃ r : Nat, r = wq4.heap.size := ⟨_, rfl⟩
      obtain ⟨rr4, hrr4⟩ : ∃ r : Nat, r = wq4.heap.size + 1 := ⟨_, rfl⟩
      rw [← hW4] at hv4 hl4
      rw [← hrr4] at hv4
      rw [← hrq4] at hv4
      have HC4 := Lib.hid (And.intro hv4 hl4)
      have HW4 := Lib.hid hW4
      have HRq4 := Lib.hid hrq4
      have HRr4 := Lib.hid hrr4
      clear px0 px1 py0 py1
      clear hv4 hl4 hW4 hb4 hrq4 qg4 ql4 hrr4 rg4 rl4 HC
      go_upto_region 6 with fail
      rw [← HW4.out]
      rw [← HRr4.out]
      rw [← HRq4.out]
      clear HW4 HRq4 HRr4
      obtain ⟨py0, py1⟩ : Two Wq4 r9 (.bool yb) (.slice yA yz.length yc) := (HC4.out.1 3 _ rfl).two rfl
      go_wp2_with fail
      refine (hd.out.sy _ _ ((HC4.out.1 3 _ rfl).at_)).mono ?_
      rintro e wq5 ⟨rfl, hb5⟩
      have HC5 := Lib.hid (And.intro (HC4.out.1.step hb5 rfl) (below_then HC4.out.2 hb5))
      clear py0 py1
      clear hb5 HC4
      go_upto_region 8 with fail
      go_cut [96] (fun sl96 wx => sl96 = .bool false ∧ ∃ W : World, W = wx ∧ MVars W [⟨true, rr4, rb4, rA4, rs4.length, rc4, r, 0⟩, ⟨true, rq4, qb4, qA4, qs4.length, qc4, q, 0⟩, ⟨true, r10, zb, zA, zz.length, zc, z, 0⟩, ⟨true, r9, yb, yA, yz.length, yc, y, 0⟩, ⟨true, r8, xb, xA, xz.length, xc, x, 0⟩] ∧ Below w.heap.size w W)
      case first => as_aux_lemma =>
        rcases HER.out with hz1 | ⟨hz1, hz2⟩
        · subst hz1
          clear HER HZ hne hey
          have HD7 := Lib.hid (And.intro HC5.out.1.drew HC5.out.2.drew)
          refine wp_region_held_drew (S := MCells [⟨true, rr4, rb4, rA4, rs4.length, rc4, r, 0⟩, ⟨true, rq4, qb4, qA4, qs4.length, qc4, q, 0⟩, ⟨true, r10, zb, zA, zz.length, zc, z, 0⟩, ⟨true, r9, yb, yA, yz.length, yc, y, 0⟩, ⟨true, r8, xb, xA, xz.length, xc, x, 0⟩]) (by kernel_rfl) (HD7.out.1.cells) (fun hH0 => ?_)
          refine wpAnyH_take (i := 0) (v := (.int .i64 0)) rfl (by kernel_rfl) (by kernel_rfl) (by kernel_rfl) (fun _ _ _ h => h) (Or.inl ⟨by kernel_rfl, fun _ _ => by kernel_rfl⟩) hH0 ?r1
          change wpAnyH _ _ _ _ _ _ _ (Act.put _ (some 65) _) _
          simp only [Act.put, List.setIfInBounds_toArray, List.set_cons_zero, List.set_cons_succ]
          refine wpAnyH_take (i := 1) (v := (.bool false)) rfl (by kernel_rfl) (by kernel_rfl) (by kernel_rfl) (fun _ _ _ h => h) (Or.inl ⟨by kernel_rfl, fun w0 hS0 => by go_simp⟩) hH0 ?r2
          change wpAnyH _ _ _ _ _ _ _ (Act.put _ (some 66) _) _
          simp only [Act.put, List.setIfInBounds_toArray, List.set_cons_zero, List.set_cons_succ]
          refine wpAnyH_take (i := 2) (v := (.bool false)) rfl (by kernel_rfl) (by kernel_rfl) (by kernel_rfl) (fun _ _ _ h => h) (Or.inl ⟨by kernel_rfl, fun _ _ => by kernel_rfl⟩) hH0 ?r3
          change wpAnyH _ _ _ _ _ _ _ (Act.put _ (some 67) _) _
          simp only [Act.put, List.setIfInBounds_toArray, List.set_cons_zero, List.set_cons_succ]
          refine wpAnyH_take (i := 3) (v := (.agg #[.bool yb, .slice yA yz.length yc])) rfl (by kernel_rfl) (by kernel_rfl) (by kernel_rfl) (fun _ _ _ h => h) (Or.inl ⟨by kernel_rfl, fun w0 hS0 => run_loadP (hS0 3 _ rfl rfl) (.tmp 9) (by kernel_rfl) (by kernel_rfl)⟩) hH0 ?r4
          change wpAnyH _ _ _ _ _ _ _ (Act.put _ (some 68) _) _
          simp only [Act.put, List.setIfInBounds_toArray, List.set_cons_zero, List.set_cons_succ]
          refine wpAnyH_take (i := 4) (v := (.agg #[.bool qb4, .slice qA4 qs4.length qc4])) rfl (by kernel_rfl) (by kernel_rfl) (by kernel_rfl) (fun _ _ _ h => h) (Or.inl ⟨by kernel_rfl, fun w0 hS0 => run_loadP (hS0 1 _ rfl rfl) (.tmp 11) (by kernel_rfl) (by kernel_rfl)⟩) hH0 ?r5
          change wpAnyH _ _ _ _ _ _ _ (Act.put _ (some 69) _) _
          simp only [Act.put, List.setIfInBounds_toArray, List.set_cons_zero, List.set_cons_succ]
          refine wpAnyH_take (i := 6) (v := (.agg #[.bool rb4, .slice rA4 rs4.length rc4])) rfl (by kernel_rfl) (by kernel_rfl) (by kernel_rfl) (fun _ _ _ h => h) (Or.inl ⟨by kernel_rfl, fun w0 hS0 => run_loadP (hS0 0 _ rfl rfl) (.tmp 12) (by kernel_rfl) (by kernel_rfl)⟩) hH0 ?r6
          change wpAnyH _ _ _ _ _ _ _ (Act.put _ (some 71) _) _
          simp only [Act.put, List.setIfInBounds_toArray, List.set_cons_zero, List.set_cons_succ]
          refine wpAnyH_take (i := 8) (v := (.agg #[.bool xb, .slice xA xz.length xc])) rfl (by kernel_rfl) (by kernel_rfl) (by kernel_rfl) (fun _ _ _ h => h) (Or.inl ⟨by kernel_rfl, fun w0 hS0 => run_loadP (hS0 4 _ rfl rfl) (.tmp 8) (by kernel_rfl) (by kernel_rfl)⟩) hH0 ?r7
          change wpAnyH _ _ _ _ _ _ _ (Act.put _ (some 73) _) _
          simp only [Act.put, List.setIfInBounds_toArray, List.set_cons_zero, List.set_cons_succ]
          refine wpAnyH_ready (rs := [5]) (by kernel_rfl) (by simp) ?_
          refine AllReadyH.cons rfl (fun K hK0 => ?d8) (AllReadyH.nil)
          have hK := hK0.out
          clear hK0
          rw [if_pos (by kernel_rfl)]
          refine wp_go_call 42 #[(.agg #[.bool yb, .slice yA yz.length yc]), (.agg #[.bool qb4, .slice qA4 qs4.length qc4])] (fun _ => by kernel_rfl) ((hd.out.mq _ _ _ ((HD7.out.1 3 _ rfl).at_) ((HD7.out.1 1 _ rfl).at_)).mono ?_)
          rintro e wq8 ⟨qv8, rfl, ⟨qb8, qA8, qc8, qs8, rfl, qg8, ql8⟩, hb8⟩
          have HD8 := Lib.hid (And.intro ((HD7.out.1.step hb8 rfl).told0 qg8 ql8) (below_then HD7.out.2 hb8))
          clear qg8 ql8 hb8 HD7
          refine ⟨(.agg #[.bool qb8, .slice qA8 qs8.length qc8]), rfl, hK _ _ (HD8.out.1.tail.cells) (fun hH8 => ?_)⟩
          clear hK K hH0
          change wpAnyH _ _ _ _ _ _ _ (Act.put _ (some 70) _) _
          simp only [Act.put, List.setIfInBounds_toArray, List.set_cons_zero, List.set_cons_succ]
          refine wpAnyH_ready (rs := [7]) (by kernel_rfl) (by simp) ?_
          refine AllReadyH.cons rfl (fun K hK0 => ?d9) (AllReadyH.nil)
          have hK := hK0.out
          clear hK0
          rw [if_pos (by kernel_rfl)]
          refine wp_go_call 38 #[(.agg #[.bool qb8, .slice qA8 qs8.length qc8]), (.agg #[.bool rb4, .slice rA4 rs4.length rc4])] (fun _ => by kernel_rfl) ((hd.out.ad _ _ _ ((HD8.out.1 0 _ rfl).at_) ((HD8.out.1 1 _ rfl).at_)).mono ?_)
          rintro e wq9 ⟨qv9, rfl, ⟨qb9, qA9, qc9, qs9, rfl, qg9, ql9⟩, hb9⟩
          have HD9 := Lib.hid (And.intro ((HD8.out.1.step hb9 rfl).told0 qg9 ql9) (below_then HD8.out.2 hb9))
          clear qg9 ql9 hb9 HD8
          refine ⟨(.agg #[.bool qb9, .slice qA9 qs9.length qc9]), rfl, hK _ _ (HD9.out.1.tail.tail.cells) (fun hH9 => ?_)⟩
          clear hK K hH8
          change wpAnyH _ _ _ _ _ _ _ (Act.put _ (some 72) _) _
          simp only [Act.put, List.setIfInBounds_toArray, List.set_cons_zero, List.set_cons_succ]
          refine wpAnyH_ready (rs := [9]) (by kernel_rfl) (by simp) ?_
          refine AllReadyH.cons rfl (fun K hK0 => ?d10) (AllReadyH.nil)
          have hK := hK0.out
          clear hK0
          rw [if_pos (by kernel_rfl)]
          refine wp_go_call 65 #[(.agg #[.bool qb9, .slice qA9 qs9.length qc9]), (.agg #[.bool xb, .slice xA xz.length xc])] (fun _ => by kernel_rfl) ((hd.out.sm _ _ _ ((HD9.out.1 0 _ rfl).at_) ((HD9.out.1 6 _ rfl).at_)).mono ?_)
          rintro e wq10 ⟨rfl, hb10⟩
          have HD10 := Lib.hid (And.intro (HD9.out.1.step hb10 rfl) (below_then HD9.out.2 hb10))
          clear hb10 HD9
          refine ⟨(.bool true), rfl, hK _ _ (HD10.out.1.tail.tail.cells) (fun hH10 => ?_)⟩
          clear hK K hH9
          change wpAnyH _ _ _ _ _ _ _ (Act.put _ (some 74) _) _
          simp only [Act.put, List.setIfInBounds_toArray, List.set_cons_zero, List.set_cons_succ]
          refine wpAnyH_take (i := 10) (v := (.bool false)) rfl (by kernel_rfl) (by kernel_rfl) (by kernel_rfl) (fun _ _ _ h => h) (Or.inl ⟨by kernel_rfl, fun _ _ => by kernel_rfl⟩) hH10 ?r11
          change wpAnyH _ _ _ _ _ _ _ (Act.put _ (some 75) _) _
          simp only [Act.put, List.setIfInBounds_toArray, List.set_cons_zero, List.set_cons_succ]
          refine wpAnyH_take (i := 11) (v := (.bool false)) rfl (by kernel_rfl) (by kernel_rfl) (by kernel_rfl) (fun _ _ _ h => h) (Or.inl ⟨by kernel_rfl, fun _ _ => by kernel_rfl⟩) hH10 ?r12
          change wpAnyH _ _ _ _ _ _ _ (Act.put _ (some 76) _) _
          simp only [Act.put, List.setIfInBounds_toArray, List.set_cons_zero, List.set_cons_succ]
          refine wpAnyH_take (i := 12) (v := (.bool false)) rfl (by kernel_rfl) (by kernel_rfl) (by kernel_rfl) (fun _ _ _ h => h) (Or.inl ⟨by kernel_rfl, fun _ _ => by kernel_rfl⟩) hH10 ?r13
          change wpAnyH _ _ _ _ _ _ _ (Act.put _ (some 77) _) _
          simp only [Act.put, List.setIfInBounds_toArray, List.set_cons_zero, List.set_cons_succ]
          refine wpAnyH_take (i := 13) (v := (.agg #[.bool rb4, .slice rA4 rs4.length rc4])) rfl (by kernel_rfl) (by kernel_rfl) (by kernel_rfl) (fun _ _ _ h => h) (Or.inl ⟨by kernel_rfl, fun w0 hS0 => run_loadP (hS0 0 _ rfl rfl) (.tmp 12) (by kernel_rfl) (by kernel_rfl)⟩) hH10 ?r14
          change wpAnyH _ _ _ _ _ _ _ (Act.put _ (some 78) _) _
          simp only [Act.put, List.setIfInBounds_toArray, List.set_cons_zero, List.set_cons_succ]
          refine wpAnyH_take (i := 15) (v := (.agg #[.bool yb, .slice yA yz.length yc])) rfl (by kernel_rfl) (by kernel_rfl) (by kernel_rfl) (fun _ _ _ h => h) (Or.inl ⟨by kernel_rfl, fun w0 hS0 => run_loadP (hS0 3 _ rfl rfl) (.tmp 9) (by kernel_rfl) (by kernel_rfl)⟩) hH10 ?r15
          change wpAnyH _ _ _ _ _ _ _ (Act.put _ (some 80) _) _
          simp only [Act.put, List.setIfInBounds_toArray, List.set_cons_zero, List.set_cons_succ]
          refine wpAnyH_ready (rs := [14]) (by kernel_rfl) (by simp) ?_
          refine AllReadyH.cons rfl (fun K hK0 => ?d16) (AllReadyH.nil)
          have hK := hK0.out
          clear hK0
          rw [if_pos (by kernel_rfl)]
          refine wp_go_call 36 #[(.agg #[.bool rb4, .slice rA4 rs4.length rc4])] (fun _ => by kernel_rfl) ((hd.out.ar _ _ ((HD10.out.1 2 _ rfl).at_)).mono ?_)
          rintro e wq11 ⟨qv11, rfl, ⟨qb11, qA11, qc11, qs11, rfl, qg11, ql11⟩, hb11⟩
          have HD11 := Lib.hid (And.intro ((HD10.out.1.step hb11 rfl).told0 qg11 ql11) (below_then HD10.out.2 hb11))
          clear qg11 ql11 hb11 HD10
          refine ⟨(.agg #[.bool qb11, .slice qA11 qs11.length qc11]), rfl, hK _ _ (HD11.out.1.tail.tail.tail.cells) (fun hH11 => ?_)⟩
          clear hK K hH10
          change wpAnyH _ _ _ _ _ _ _ (Act.put _ (some 79) _) _
          simp only [Act.put, List.setIfInBounds_toArray, List.set_cons_zero, List.set_cons_succ]
          refine wpAnyH_ready (rs := [16]) (by kernel_rfl) (by simp) ?_
          refine AllReadyH.cons rfl (fun K hK0 => ?d17) (AllReadyH.nil)
          have hK := hK0.out
          clear hK0
          rw [if_pos (by kernel_rfl)]
          refine wp_go_call 36 #[(.agg #[.bool yb, .slice yA yz.length yc])] (fun _ => by kernel_rfl) ((hd.out.ay _ _ ((HD11.out.1 6 _ rfl).at_)).mono ?_)
          rintro e wq12 ⟨qv12, rfl, ⟨qb12, qA12, qc12, qs12, rfl, qg12, ql12⟩, hb12⟩
          have HD12 := Lib.hid (And.intro ((HD11.out.1.step hb12 rfl).told0 qg12 ql12) (below_then HD11.out.2 hb12))
          clear qg12 ql12 hb12 HD11
          refine ⟨(.agg #[.bool qb12, .slice qA12 qs12.length qc12]), rfl, hK _ _ (HD12.out.1.tail.tail.tail.tail.cells) (fun hH12 => ?_)⟩
          clear hK K hH11
          change wpAnyH _ _ _ _ _ _ _ (Act.put _ (some 81) _) _
          simp only [Act.put, List.setIfInBounds_toArray, List.set_cons_zero, List.set_cons_succ]
          refine wpAnyH_ready (rs := [17]) (by kernel_rfl) (by simp) ?_
          refine AllReadyH.cons rfl (fun K hK0 => ?d18) (AllReadyH.nil)
          have hK := hK0.out
          clear hK0
          rw [if_pos (by kernel_rfl)]
          refine wp_go_call 32 #[(.agg #[.bool qb11, .slice qA11 qs11.length qc11]), (.agg #[.bool qb12, .slice qA12 qs12.length qc12])] (fun _ => by kernel_rfl) ((hd.out.cm _ _ _ ((HD12.out.1 1 _ rfl).at_) ((HD12.out.1 0 _ rfl).at_)).mono ?_)
          rintro e wq13 ⟨rfl, hb13⟩
          have HD13 := Lib.hid (And.intro (HD12.out.1.step hb13 rfl) (below_then HD12.out.2 hb13))
          clear hb13 HD12
          refine ⟨(.int .i64 (-1)), rfl, hK _ _ (HD13.out.1.tail.tail.tail.tail.cells) (fun hH13 => ?_)⟩
          clear hK K hH12
          change wpAnyH _ _ _ _ _ _ _ (Act.put _ (some 82) _) _
          simp only [Act.put, List.setIfInBounds_toArray, List.set_cons_zero, List.set_cons_succ]
          refine wpAnyH_take (i := 18) (v := (.bool false)) rfl (by kernel_rfl) (by kernel_rfl) (by kernel_rfl) (fun _ _ _ h => h) (Or.inl ⟨by kernel_rfl, fun w0 hS0 => by go_simp⟩) hH13 ?r19
          change wpAnyH _ _ _ _ _ _ _ (Act.put _ (some 83) _) _
          simp only [Act.put, List.setIfInBounds_toArray, List.set_cons_zero, List.set_cons_succ]
          refine wpAnyH_take (i := 19) (v := (.bool false)) rfl (by kernel_rfl) (by kernel_rfl) (by kernel_rfl) (fun _ _ _ h => h) (Or.inl ⟨by kernel_rfl, fun _ _ => by kernel_rfl⟩) hH13 ?r20
          change wpAnyH _ _ _ _ _ _ _ (Act.put _ (some 84) _) _
          simp only [Act.put, List.setIfInBounds_toArray, List.set_cons_zero, List.set_cons_succ]
          refine wpAnyH_take (i := 20) (v := (.bool false)) rfl (by kernel_rfl) (by kernel_rfl) (by kernel_rfl) (fun _ _ _ h => h) (Or.inl ⟨by kernel_rfl, fun _ _ => by kernel_rfl⟩) hH13 ?r21
          change wpAnyH _ _ _ _ _ _ _ (Act.put _ (some 85) _) _
          simp only [Act.put, List.setIfInBounds_toArray, List.set_cons_zero, List.set_cons_succ]
          refine wpAnyH_take (i := 21) (v := (.agg #[.bool rb4, .slice rA4 rs4.length rc4])) rfl (by kernel_rfl) (by kernel_rfl) (by kernel_rfl) (fun _ _ _ h => h) (Or.inl ⟨by kernel_rfl, fun w0 hS0 => run_loadP (hS0 0 _ rfl rfl) (.tmp 12) (by kernel_rfl) (by kernel_rfl)⟩) hH13 ?r22
          change wpAnyH _ _ _ _ _ _ _ (Act.put _ (some 86) _) _
          simp only [Act.put, List.setIfInBounds_toArray, List.set_cons_zero, List.set_cons_succ]
          refine wpAnyH_ready (rs := [22]) (by kernel_rfl) (by simp) ?_
          refine AllReadyH.cons rfl (fun K hK0 => ?d23) (AllReadyH.nil)
          have hK := hK0.out
          clear hK0
          rw [if_pos (by kernel_rfl)]
          refine wp_go_call 22 #[(.agg #[.bool rb4, .slice rA4 rs4.length rc4])] (fun _ => by kernel_rfl) ((hd.out.sr _ _ ((HD13.out.1 4 _ rfl).at_)).mono ?_)
          rintro e wq14 ⟨rfl, hb14⟩
          have HD14 := Lib.hid (And.intro (HD13.out.1.step hb14 rfl) (below_then HD13.out.2 hb14))
          clear hb14 HD13
          refine ⟨(.int .i64 0), rfl, hK _ _ (HD14.out.1.tail.tail.tail.tail.cells) (fun hH14 => ?_)⟩
          clear hK K hH13
          change wpAnyH _ _ _ _ _ _ _ (Act.put _ (some 87) _) _
          simp only [Act.put, List.setIfInBounds_toArray, List.set_cons_zero, List.set_cons_succ]
          refine wpAnyH_take (i := 23) (v := (.bool false)) rfl (by kernel_rfl) (by kernel_rfl) (by kernel_rfl) (fun _ _ _ h => h) (Or.inl ⟨by kernel_rfl, fun w0 hS0 => by go_simp⟩) hH14 ?r24
          change wpAnyH _ _ _ _ _ _ _ (Act.put _ (some 88) _) _
          simp only [Act.put, List.setIfInBounds_toArray, List.set_cons_zero, List.set_cons_succ]
          refine wpAnyH_take (i := 24) (v := (.bool false)) rfl (by kernel_rfl) (by kernel_rfl) (by kernel_rfl) (fun _ _ _ h => h) (Or.inl ⟨by kernel_rfl, fun _ _ => by kernel_rfl⟩) hH14 ?r25
          change wpAnyH _ _ _ _ _ _ _ (Act.put _ (some 89) _) _
          simp only [Act.put, List.setIfInBounds_toArray, List.set_cons_zero, List.set_cons_succ]
          refine wpAnyH_take (i := 25) (v := undef) rfl (by kernel_rfl) (by kernel_rfl) (by kernel_rfl) (fun _ _ _ h => h) (Or.inr ⟨by kernel_rfl, rfl⟩) hH14 ?r26
          change wpAnyH _ _ _ _ _ _ _ (Act.put _ (some 90) _) _
          simp only [Act.put, List.setIfInBounds_toArray, List.set_cons_zero, List.set_cons_succ]
          refine wpAnyH_take (i := 26) (v := undef) rfl (by kernel_rfl) (by kernel_rfl) (by kernel_rfl) (fun _ _ _ h => h) (Or.inr ⟨by kernel_rfl, rfl⟩) hH14 ?r27
          change wpAnyH _ _ _ _ _ _ _ (Act.put _ (some 91) _) _
          simp only [Act.put, List.setIfInBounds_toArray, List.set_cons_zero, List.set_cons_succ]
          refine wpAnyH_take (i := 27) (v := undef) rfl (by kernel_rfl) (by kernel_rfl) (by kernel_rfl) (fun _ _ _ h => h) (Or.inr ⟨by kernel_rfl, rfl⟩) hH14 ?r28
          change wpAnyH _ _ _ _ _ _ _ (Act.put _ (some 92) _) _
          simp only [Act.put, List.setIfInBounds_toArray, List.set_cons_zero, List.set_cons_succ]
          refine wpAnyH_take (i := 28) (v := undef) rfl (by kernel_rfl) (by kernel_rfl) (by kernel_rfl) (fun _ _ _ h => h) (Or.inr ⟨by kernel_rfl, rfl⟩) hH14 ?r29
          change wpAnyH _ _ _ _ _ _ _ (Act.put _ (some 93) _) _
          simp only [Act.put, List.setIfInBounds_toArray, List.set_cons_zero, List.set_cons_succ]
          refine wpAnyH_take (i := 29) (v := undef) rfl (by kernel_rfl) (by kernel_rfl) (by kernel_rfl) (fun _ _ _ h => h) (Or.inr ⟨by kernel_rfl, rfl⟩) hH14 ?r30
          change wpAnyH _ _ _ _ _ _ _ (Act.put _ (some 94) _) _
          simp only [Act.put, List.setIfInBounds_toArray, List.set_cons_zero, List.set_cons_succ]
          refine wpAnyH_take (i := 30) (v := (Value.bool false)) rfl (by kernel_rfl) (by kernel_rfl) (by kernel_rfl) (fun _ _ _ h => h) (Or.inl ⟨by kernel_rfl, fun _ _ => by kernel_rfl⟩) hH14 ?r31
          change wpAnyH _ _ _ _ _ _ _ (Act.put _ (some 95) _) _
          simp only [Act.put, List.setIfInBounds_toArray, List.set_cons_zero, List.set_cons_succ]
          refine wpAnyH_take (i := 31) (v := (Value.bool false)) rfl (by kernel_rfl) (by kernel_rfl) (by kernel_rfl) (fun _ _ _ h => h) (Or.inl ⟨by kernel_rfl, fun _ _ => by kernel_rfl⟩) hH14 ?r32
          change wpAnyH _ _ _ _ _ _ _ (Act.put _ (some 96) _) _
          simp only [Act.put, List.setIfInBounds_toArray, List.set_cons_zero, List.set_cons_succ]
          refine wpAnyH_done (by kernel_rfl) ?_ _
          go_wp2
          go_meet
          exact ⟨rfl, _, rfl, HD14.out.1.tail.tail.tail.tail, HD14.out.2⟩
        · subst hz2
          clear HER HZ hne hey
          have hb1 : (er != 0) = true := by rw [bne_iff_ne]; exact hz1
          have HD15 := Lib.hid (And.intro HC5.out.1.drew HC5.out.2.drew)
          refine wp_region_held_drew (S := MCells [⟨true, rr4, rb4, rA4, rs4.length, rc4, r, 0⟩, ⟨true, rq4, qb4, qA4, qs4.length, qc4, q, 0⟩, ⟨true, r10, zb, zA, zz.length, zc, z, 0⟩, ⟨true, r9, yb, yA, yz.length, yc, y, 0⟩, ⟨true, r8, xb, xA, xz.length, xc, x, 0⟩]) (by kernel_rfl) (HD15.out.1.cells) (fun hH0 => ?_)
          refine wpAnyH_take (i := 0) (v := (.int .i64 0)) rfl (by kernel_rfl) (by kernel_rfl) (by kernel_rfl) (fun _ _ _ h => h) (Or.inl ⟨by kernel_rfl, fun _ _ => by kernel_rfl⟩) hH0 ?r33
          change wpAnyH _ _ _ _ _ _ _ (Act.put _ (some 65) _) _
          simp only [Act.put, List.setIfInBounds_toArray, List.set_cons_zero, List.set_cons_succ]
          refine wpAnyH_take (i := 1) (v := (.bool false)) rfl (by kernel_rfl) (by kernel_rfl) (by kernel_rfl) (fun _ _ _ h => h) (Or.inl ⟨by kernel_rfl, fun w0 hS0 => by go_simp⟩) hH0 ?r34
          change wpAnyH _ _ _ _ _ _ _ (Act.put _ (some 66) _) _
          simp only [Act.put, List.setIfInBounds_toArray, List.set_cons_zero, List.set_cons_succ]
          refine wpAnyH_take (i := 2) (v := (.bool false)) rfl (by kernel_rfl) (by kernel_rfl) (by kernel_rfl) (fun _ _ _ h => h) (Or.inl ⟨by kernel_rfl, fun _ _ => by kernel_rfl⟩) hH0 ?r35
          change wpAnyH _ _ _ _ _ _ _ (Act.put _ (some 67) _) _
          simp only [Act.put, List.setIfInBounds_toArray, List.set_cons_zero, List.set_cons_succ]
          refine wpAnyH_take (i := 3) (v := (.agg #[.bool yb, .slice yA yz.length yc])) rfl (by kernel_rfl) (by kernel_rfl) (by kernel_rfl) (fun _ _ _ h => h) (Or.inl ⟨by kernel_rfl, fun w0 hS0 => run_loadP (hS0 3 _ rfl rfl) (.tmp 9) (by kernel_rfl) (by kernel_rfl)⟩) hH0 ?r36
          change wpAnyH _ _ _ _ _ _ _ (Act.put _ (some 68) _) _
          simp only [Act.put, List.setIfInBounds_toArray, List.set_cons_zero, List.set_cons_succ]
          refine wpAnyH_take (i := 4) (v := (.agg #[.bool qb4, .slice qA4 qs4.length qc4])) rfl (by kernel_rfl) (by kernel_rfl) (by kernel_rfl) (fun _ _ _ h => h) (Or.inl ⟨by kernel_rfl, fun w0 hS0 => run_loadP (hS0 1 _ rfl rfl) (.tmp 11) (by kernel_rfl) (by kernel_rfl)⟩) hH0 ?r37
          change wpAnyH _ _ _ _ _ _ _ (Act.put _ (some 69) _) _
          simp only [Act.put, List.setIfInBounds_toArray, List.set_cons_zero, List.set_cons_succ]
          refine wpAnyH_take (i := 6) (v := (.agg #[.bool rb4, .slice rA4 rs4.length rc4])) rfl (by kernel_rfl) (by kernel_rfl) (by kernel_rfl) (fun _ _ _ h => h) (Or.inl ⟨by kernel_rfl, fun w0 hS0 => run_loadP (hS0 0 _ rfl rfl) (.tmp 12) (by kernel_rfl) (by kernel_rfl)⟩) hH0 ?r38
          change wpAnyH _ _ _ _ _ _ _ (Act.put _ (some 71) _) _
          simp only [Act.put, List.setIfInBounds_toArray, List.set_cons_zero, List.set_cons_succ]
          refine wpAnyH_take (i := 8) (v := (.agg #[.bool xb, .slice xA xz.length xc])) rfl (by kernel_rfl) (by kernel_rfl) (by kernel_rfl) (fun _ _ _ h => h) (Or.inl ⟨by kernel_rfl, fun w0 hS0 => run_loadP (hS0 4 _ rfl rfl) (.tmp 8) (by kernel_rfl) (by kernel_rfl)⟩) hH0 ?r39
          change wpAnyH _ _ _ _ _ _ _ (Act.put _ (some 73) _) _
          simp only [Act.put, List.setIfInBounds_toArray, List.set_cons_zero, List.set_cons_succ]
          refine wpAnyH_ready (rs := [5]) (by kernel_rfl) (by simp) ?_
          refine AllReadyH.cons rfl (fun K hK0 => ?d40) (AllReadyH.nil)
          have hK := hK0.out
          clear hK0
          rw [if_pos (by kernel_rfl)]
          refine wp_go_call 42 #[(.agg #[.bool yb, .slice yA yz.length yc]), (.agg #[.bool qb4, .slice qA4 qs4.length qc4])] (fun _ => by kernel_rfl) ((hd.out.mq _ _ _ ((HD15.out.1 3 _ rfl).at_) ((HD15.out.1 1 _ rfl).at_)).mono ?_)
          rintro e wq16 ⟨qv16, rfl, ⟨qb16, qA16, qc16, qs16, rfl, qg16, ql16⟩, hb16⟩
          have HD16 := Lib.hid (And.intro ((HD15.out.1.step hb16 rfl).told0 qg16 ql16) (below_then HD15.out.2 hb16))
          clear qg16 ql16 hb16 HD15
          refine ⟨(.agg #[.bool qb16, .slice qA16 qs16.length qc16]), rfl, hK _ _ (HD16.out.1.tail.cells) (fun hH16 => ?_)⟩
          clear hK K hH0
          change wpAnyH _ _ _ _ _ _ _ (Act.put _ (some 70) _) _
          simp only [Act.put, List.setIfInBounds_toArray, List.set_cons_zero, List.set_cons_succ]
          refine wpAnyH_ready (rs := [7]) (by kernel_rfl) (by simp) ?_
          refine AllReadyH.cons rfl (fun K hK0 => ?d41) (AllReadyH.nil)
          have hK := hK0.out
          clear hK0
          rw [if_pos (by kernel_rfl)]
          refine wp_go_call 38 #[(.agg #[.bool qb16, .slice qA16 qs16.length qc16]), (.agg #[.bool rb4, .slice rA4 rs4.length rc4])] (fun _ => by kernel_rfl) ((hd.out.ad _ _ _ ((HD16.out.1 0 _ rfl).at_) ((HD16.out.1 1 _ rfl).at_)).mono ?_)
          rintro e wq17 ⟨qv17, rfl, ⟨qb17, qA17, qc17, qs17, rfl, qg17, ql17⟩, hb17⟩
          have HD17 := Lib.hid (And.intro ((HD16.out.1.step hb17 rfl).told0 qg17 ql17) (below_then HD16.out.2 hb17))
          clear qg17 ql17 hb17 HD16
          refine ⟨(.agg #[.bool qb17, .slice qA17 qs17.length qc17]), rfl, hK _ _ (HD17.out.1.tail.tail.cells) (fun hH17 => ?_)⟩
          clear hK K hH16
          change wpAnyH _ _ _ _ _ _ _ (Act.put _ (some 72) _) _
          simp only [Act.put, List.setIfInBounds_toArray, List.set_cons_zero, List.set_cons_succ]
          refine wpAnyH_ready (rs := [9]) (by kernel_rfl) (by simp) ?_
          refine AllReadyH.cons rfl (fun K hK0 => ?d42) (AllReadyH.nil)
          have hK := hK0.out
          clear hK0
          rw [if_pos (by kernel_rfl)]
          refine wp_go_call 65 #[(.agg #[.bool qb17, .slice qA17 qs17.length qc17]), (.agg #[.bool xb, .slice xA xz.length xc])] (fun _ => by kernel_rfl) ((hd.out.sm _ _ _ ((HD17.out.1 0 _ rfl).at_) ((HD17.out.1 6 _ rfl).at_)).mono ?_)
          rintro e wq18 ⟨rfl, hb18⟩
          have HD18 := Lib.hid (And.intro (HD17.out.1.step hb18 rfl) (below_then HD17.out.2 hb18))
          clear hb18 HD17
          refine ⟨(.bool true), rfl, hK _ _ (HD18.out.1.tail.tail.cells) (fun hH18 => ?_)⟩
          clear hK K hH17
          change wpAnyH _ _ _ _ _ _ _ (Act.put _ (some 74) _) _
          simp only [Act.put, List.setIfInBounds_toArray, List.set_cons_zero, List.set_cons_succ]
          refine wpAnyH_take (i := 10) (v := (.bool false)) rfl (by kernel_rfl) (by kernel_rfl) (by kernel_rfl) (fun _ _ _ h => h) (Or.inl ⟨by kernel_rfl, fun _ _ => by kernel_rfl⟩) hH18 ?r43
          change wpAnyH _ _ _ _ _ _ _ (Act.put _ (some 75) _) _
          simp only [Act.put, List.setIfInBounds_toArray, List.set_cons_zero, List.set_cons_succ]
          refine wpAnyH_take (i := 11) (v := (.bool false)) rfl (by kernel_rfl) (by kernel_rfl) (by kernel_rfl) (fun _ _ _ h => h) (Or.inl ⟨by kernel_rfl, fun _ _ => by kernel_rfl⟩) hH18 ?r44
          change wpAnyH _ _ _ _ _ _ _ (Act.put _ (some 76) _) _
          simp only [Act.put, List.setIfInBounds_toArray, List.set_cons_zero, List.set_cons_succ]
          refine wpAnyH_take (i := 12) (v := (.bool false)) rfl (by kernel_rfl) (by kernel_rfl) (by kernel_rfl) (fun _ _ _ h => h) (Or.inl ⟨by kernel_rfl, fun _ _ => by kernel_rfl⟩) hH18 ?r45
          change wpAnyH _ _ _ _ _ _ _ (Act.put _ (some 77) _) _
          simp only [Act.put, List.setIfInBounds_toArray, List.set_cons_zero, List.set_cons_succ]
          refine wpAnyH_take (i := 13) (v := (.agg #[.bool rb4, .slice rA4 rs4.length rc4])) rfl (by kernel_rfl) (by kernel_rfl) (by kernel_rfl) (fun _ _ _ h => h) (Or.inl ⟨by kernel_rfl, fun w0 hS0 => run_loadP (hS0 0 _ rfl rfl) (.tmp 12) (by kernel_rfl) (by kernel_rfl)⟩) hH18 ?r46
          change wpAnyH _ _ _ _ _ _ _ (Act.put _ (some 78) _) _
          simp only [Act.put, List.setIfInBounds_toArray, List.set_cons_zero, List.set_cons_succ]
          refine wpAnyH_take (i := 15) (v := (.agg #[.bool yb, .slice yA yz.length yc])) rfl (by kernel_rfl) (by kernel_rfl) (by kernel_rfl) (fun _ _ _ h => h) (Or.inl ⟨by kernel_rfl, fun w0 hS0 => run_loadP (hS0 3 _ rfl rfl) (.tmp 9) (by kernel_rfl) (by kernel_rfl)⟩) hH18 ?r47
          change wpAnyH _ _ _ _ _ _ _ (Act.put _ (some 80) _) _
          simp only [Act.put, List.setIfInBounds_toArray, List.set_cons_zero, List.set_cons_succ]
          refine wpAnyH_ready (rs := [14]) (by kernel_rfl) (by simp) ?_
          refine AllReadyH.cons rfl (fun K hK0 => ?d48) (AllReadyH.nil)
          have hK := hK0.out
          clear hK0
          rw [if_pos (by kernel_rfl)]
          refine wp_go_call 36 #[(.agg #[.bool rb4, .slice rA4 rs4.length rc4])] (fun _ => by kernel_rfl) ((hd.out.ar _ _ ((HD18.out.1 2 _ rfl).at_)).mono ?_)
          rintro e wq19 ⟨qv19, rfl, ⟨qb19, qA19, qc19, qs19, rfl, qg19, ql19⟩, hb19⟩
          have HD19 := Lib.hid (And.intro ((HD18.out.1.step hb19 rfl).told0 qg19 ql19) (below_then HD18.out.2 hb19))
          clear qg19 ql19 hb19 HD18
          refine ⟨(.agg #[.bool qb19, .slice qA19 qs19.length qc19]), rfl, hK _ _ (HD19.out.1.tail.tail.tail.cells) (fun hH19 => ?_)⟩
          clear hK K hH18
          change wpAnyH _ _ _ _ _ _ _ (Act.put _ (some 79) _) _
          simp only [Act.put, List.setIfInBounds_toArray, List.set_cons_zero, List.set_cons_succ]
          refine wpAnyH_ready (rs := [16]) (by kernel_rfl) (by simp) ?_
          refine AllReadyH.cons rfl (fun K hK0 => ?d49) (AllReadyH.nil)
          have hK := hK0.out
          clear hK0
          rw [if_pos (by kernel_rfl)]
          refine wp_go_call 36 #[(.agg #[.bool yb, .slice yA yz.length yc])] (fun _ => by kernel_rfl) ((hd.out.ay _ _ ((HD19.out.1 6 _ rfl).at_)).mono ?_)
          rintro e wq20 ⟨qv20, rfl, ⟨qb20, qA20, qc20, qs20, rfl, qg20, ql20⟩, hb20⟩
          have HD20 := Lib.hid (And.intro ((HD19.out.1.step hb20 rfl).told0 qg20 ql20) (below_then HD19.out.2 hb20))
          clear qg20 ql20 hb20 HD19
          refine ⟨(.agg #[.bool qb20, .slice qA20 qs20.length qc20]), rfl, hK _ _ (HD20.out.1.tail.tail.tail.tail.cells) (fun hH20 => ?_)⟩
          clear hK K hH19
          change wpAnyH _ _ _ _ _ _ _ (Act.put _ (some 81) _) _
          simp only [Act.put, List.setIfInBounds_toArray, List.set_cons_zero, List.set_cons_succ]
          refine wpAnyH_ready (rs := [17]) (by kernel_rfl) (by simp) ?_
          refine AllReadyH.cons rfl (fun K hK0 => ?d50) (AllReadyH.nil)
          have hK := hK0.out
          clear hK0
          rw [if_pos (by kernel_rfl)]
          refine wp_go_call 32 #[(.agg #[.bool qb19, .slice qA19 qs19.length qc19]), (.agg #[.bool qb20, .slice qA20 qs20.length qc20])] (fun _ => by kernel_rfl) ((hd.out.cm _ _ _ ((HD20.out.1 1 _ rfl).at_) ((HD20.out.1 0 _ rfl).at_)).mono ?_)
          rintro e wq21 ⟨rfl, hb21⟩
          have HD21 := Lib.hid (And.intro (HD20.out.1.step hb21 rfl) (below_then HD20.out.2 hb21))
          clear hb21 HD20
          refine ⟨(.int .i64 (-1)), rfl, hK _ _ (HD21.out.1.tail.tail.tail.tail.cells) (fun hH21 => ?_)⟩
          clear hK K hH20
          change wpAnyH _ _ _ _ _ _ _ (Act.put _ (some 82) _) _
          simp only [Act.put, List.setIfInBounds_toArray, List.set_cons_zero, List.set_cons_succ]
          refine wpAnyH_take (i := 18) (v := (.bool false)) rfl (by kernel_rfl) (by kernel_rfl) (by kernel_rfl) (fun _ _ _ h => h) (Or.inl ⟨by kernel_rfl, fun w0 hS0 => by go_simp⟩) hH21 ?r51
          change wpAnyH _ _ _ _ _ _ _ (Act.put _ (some 83) _) _
          simp only [Act.put, List.setIfInBounds_toArray, List.set_cons_zero, List.set_cons_succ]
          refine wpAnyH_take (i := 19) (v := (.bool false)) rfl (by kernel_rfl) (by kernel_rfl) (by kernel_rfl) (fun _ _ _ h => h) (Or.inl ⟨by kernel_rfl, fun _ _ => by kernel_rfl⟩) hH21 ?r52
          change wpAnyH _ _ _ _ _ _ _ (Act.put _ (some 84) _) _
          simp only [Act.put, List.setIfInBounds_toArray, List.set_cons_zero, List.set_cons_succ]
          refine wpAnyH_take (i := 20) (v := (.bool false)) rfl (by kernel_rfl) (by kernel_rfl) (by kernel_rfl) (fun _ _ _ h => h) (Or.inl ⟨by kernel_rfl, fun _ _ => by kernel_rfl⟩) hH21 ?r53
          change wpAnyH _ _ _ _ _ _ _ (Act.put _ (some 85) _) _
          simp only [Act.put, List.setIfInBounds_toArray, List.set_cons_zero, List.set_cons_succ]
          refine wpAnyH_take (i := 21) (v := (.agg #[.bool rb4, .slice rA4 rs4.length rc4])) rfl (by kernel_rfl) (by kernel_rfl) (by kernel_rfl) (fun _ _ _ h => h) (Or.inl ⟨by kernel_rfl, fun w0 hS0 => run_loadP (hS0 0 _ rfl rfl) (.tmp 12) (by kernel_rfl) (by kernel_rfl)⟩) hH21 ?r54
          change wpAnyH _ _ _ _ _ _ _ (Act.put _ (some 86) _) _
          simp only [Act.put, List.setIfInBounds_toArray, List.set_cons_zero, List.set_cons_succ]
          refine wpAnyH_ready (rs := [22]) (by kernel_rfl) (by simp) ?_
          refine AllReadyH.cons rfl (fun K hK0 => ?d55) (AllReadyH.nil)
          have hK := hK0.out
          clear hK0
          rw [if_pos (by kernel_rfl)]
          refine wp_go_call 22 #[(.agg #[.bool rb4, .slice rA4 rs4.length rc4])] (fun _ => by kernel_rfl) ((hd.out.sr _ _ ((HD21.out.1 4 _ rfl).at_)).mono ?_)
          rintro e wq22 ⟨rfl, hb22⟩
          have HD22 := Lib.hid (And.intro (HD21.out.1.step hb22 rfl) (below_then HD21.out.2 hb22))
          clear hb22 HD21
          refine ⟨(.int .i64 er), rfl, hK _ _ (HD22.out.1.tail.tail.tail.tail.cells) (fun hH22 => ?_)⟩
          clear hK K hH21
          change wpAnyH _ _ _ _ _ _ _ (Act.put _ (some 87) _) _
          simp only [Act.put, List.setIfInBounds_toArray, List.set_cons_zero, List.set_cons_succ]
          refine wpAnyH_take (i := 23) (v := (.bool true)) rfl (by kernel_rfl) (by kernel_rfl) (by kernel_rfl) (fun _ _ _ h => h) (Or.inl ⟨by kernel_rfl, fun w0 hS0 => by go_simp⟩) hH22 ?r56
          change wpAnyH _ _ _ _ _ _ _ (Act.put _ (some 88) _) _
          simp only [Act.put, List.setIfInBounds_toArray, List.set_cons_zero, List.set_cons_succ]
          refine wpAnyH_take (i := 24) (v := (.bool true)) rfl (by kernel_rfl) (by kernel_rfl) (by kernel_rfl) (fun _ _ _ h => h) (Or.inl ⟨by kernel_rfl, fun _ _ => by kernel_rfl⟩) hH22 ?r57
          change wpAnyH _ _ _ _ _ _ _ (Act.put _ (some 89) _) _
          simp only [Act.put, List.setIfInBounds_toArray, List.set_cons_zero, List.set_cons_succ]
          refine wpAnyH_take (i := 25) (v := (.agg #[.bool rb4, .slice rA4 rs4.length rc4])) rfl (by kernel_rfl) (by kernel_rfl) (by kernel_rfl) (fun _ _ _ h => h) (Or.inl ⟨by kernel_rfl, fun w0 hS0 => run_loadP (hS0 0 _ rfl rfl) (.tmp 12) (by kernel_rfl) (by kernel_rfl)⟩) hH22 ?r58
          change wpAnyH _ _ _ _ _ _ _ (Act.put _ (some 90) _) _
          simp only [Act.put, List.setIfInBounds_toArray, List.set_cons_zero, List.set_cons_succ]
          refine wpAnyH_take (i := 27) (v := (.agg #[.bool xb, .slice xA xz.length xc])) rfl (by kernel_rfl) (by kernel_rfl) (by kernel_rfl) (fun _ _ _ h => h) (Or.inl ⟨by kernel_rfl, fun w0 hS0 => run_loadP (hS0 4 _ rfl rfl) (.tmp 8) (by kernel_rfl) (by kernel_rfl)⟩) hH22 ?r59
          change wpAnyH _ _ _ _ _ _ _ (Act.put _ (some 92) _) _
          simp only [Act.put, List.setIfInBounds_toArray, List.set_cons_zero, List.set_cons_succ]
          refine wpAnyH_ready (rs := [26]) (by kernel_rfl) (by simp) ?_
          refine AllReadyH.cons rfl (fun K hK0 => ?d60) (AllReadyH.nil)
          have hK := hK0.out
          clear hK0
          rw [if_pos (by kernel_rfl)]
          refine wp_go_call 22 #[(.agg #[.bool rb4, .slice rA4 rs4.length rc4])] (fun _ => by kernel_rfl) ((hd.out.sr _ _ ((HD22.out.1 4 _ rfl).at_)).mono ?_)
          rintro e wq23 ⟨rfl, hb23⟩
          have HD23 := Lib.hid (And.intro (HD22.out.1.step hb23 rfl) (below_then HD22.out.2 hb23))
          clear hb23 HD22
          refine ⟨(.int .i64 er), rfl, hK _ _ (HD23.out.1.tail.tail.tail.tail.cells) (fun hH23 => ?_)⟩
          clear hK K hH22
          change wpAnyH _ _ _ _ _ _ _ (Act.put _ (some 91) _) _
          simp only [Act.put, List.setIfInBounds_toArray, List.set_cons_zero, List.set_cons_succ]
          refine wpAnyH_ready (rs := [28]) (by kernel_rfl) (by simp) ?_
          refine AllReadyH.cons rfl (fun K hK0 => ?d61) (AllReadyH.nil)
          have hK := hK0.out
          clear hK0
          rw [if_pos (by kernel_rfl)]
          refine wp_go_call 22 #[(.agg #[.bool xb, .slice xA xz.length xc])] (fun _ => by kernel_rfl) ((hd.out.sx _ _ ((HD23.out.1 8 _ rfl).at_)).mono ?_)
          rintro e wq24 ⟨rfl, hb24⟩
          have HD24 := Lib.hid (And.intro (HD23.out.1.step hb24 rfl) (below_then HD23.out.2 hb24))
          clear hb24 HD23
          refine ⟨(.int .i64 er), rfl, hK _ _ (HD24.out.1.tail.tail.tail.tail.cells) (fun hH24 => ?_)⟩
          clear hK K hH23
          change wpAnyH _ _ _ _ _ _ _ (Act.put _ (some 93) _) _
          simp only [Act.put, List.setIfInBounds_toArray, List.set_cons_zero, List.set_cons_succ]
          refine wpAnyH_take (i := 29) (v := (.bool false)) rfl (by kernel_rfl) (by kernel_rfl) (by kernel_rfl) (fun _ _ _ h => h) (Or.inl ⟨by kernel_rfl, fun w0 hS0 => by go_simp⟩) hH24 ?r62
          change wpAnyH _ _ _ _ _ _ _ (Act.put _ (some 94) _) _
          simp only [Act.put, List.setIfInBounds_toArray, List.set_cons_zero, List.set_cons_succ]
          refine wpAnyH_take (i := 30) (v := (.bool false)) rfl (by kernel_rfl) (by kernel_rfl) (by kernel_rfl) (fun _ _ _ h => h) (Or.inl ⟨by kernel_rfl, fun _ _ => by kernel_rfl⟩) hH24 ?r63
          change wpAnyH _ _ _ _ _ _ _ (Act.put _ (some 95) _) _
          simp only [Act.put, List.setIfInBounds_toArray, List.set_cons_zero, List.set_cons_succ]
          refine wpAnyH_take (i := 31) (v := (.bool false)) rfl (by kernel_rfl) (by kernel_rfl) (by kernel_rfl) (fun _ _ _ h => h) (Or.inl ⟨by kernel_rfl, fun _ _ => by kernel_rfl⟩) hH24 ?r64
          change wpAnyH _ _ _ _ _ _ _ (Act.put _ (some 96) _) _
          simp only [Act.put, List.setIfInBounds_toArray, List.set_cons_zero, List.set_cons_succ]
          refine wpAnyH_done (by kernel_rfl) ?_ _
          go_wp2
          go_meet
          exact ⟨rfl, _, rfl, HD24.out.1.tail.tail.tail.tail, HD24.out.2⟩
      case rest =>
        obtain ⟨rfl, Wq6, rfl, hvs, hbl⟩ := hcut
        have HC6 := Lib.hid (And.intro hvs hbl)
        clear hvs hbl HC5
        obtain ⟨px0, px1⟩ : Two Wq6 r8 (.bool xb) (.slice xA xz.length xc) := (HC6.out.1 4 _ rfl).two rfl
        obtain ⟨py0, py1⟩ : Two Wq6 r9 (.bool yb) (.slice yA yz.length yc) := (HC6.out.1 3 _ rfl).two rfl
        go_wp2_with fail
        refine (hd.out.hg _ _ _ ((HC6.out.1 4 _ rfl).at_) ((HC6.out.1 3 _ rfl).at_)).mono ?_
        rintro e wq25 ⟨qv25, rfl, ⟨qb25, qA25, qc25, qs25, rfl, qg25, ql25⟩, hb25⟩
        have hv25 := ((HC6.out.1.step hb25 rfl).told0 qg25 ql25).laid 28
        have hl25 : Below w.heap.size w (wq25.alloc (.cells #[.bool qb25, .slice qA25 qs25.length qc25] 28)) := ((below_then HC6.out.2 hb25).alloc (Nat.le_trans HC6.out.2.size hb25.size) (.cells #[.bool qb25, .slice qA25 qs25.length qc25] 28))
        obtain ⟨Wq25, hW25⟩ : ∃ W : World, W = wq25.alloc (.cells #[.bool qb25, .slice qA25 qs25.length qc25] 28) := ⟨_, rfl⟩
        obtain ⟨rq25, hrq25⟩ : ∃ r : Nat, r = wq25.heap.size := ⟨_, rfl⟩
        rw [← hW25] at hv25 hl25
        rw [← hrq25] at hv25
        have HC25 := Lib.hid (And.intro hv25 hl25)
        have HW25 := Lib.hid hW25
        have HRq25 := Lib.hid hrq25
        clear px0 px1 py0 py1
        clear hv25 hl25 hW25 hb25 hrq25 qg25 ql25 HC6
        go_upto_region 11 with fail
        rw [← HW25.out]
        rw [← HRq25.out]
        clear HW25 HRq25
        obtain ⟨px0, px1⟩ : Two Wq25 r8 (.bool xb) (.slice xA xz.length xc) := (HC25.out.1 5 _ rfl).two rfl
        obtain ⟨pg0, pg1⟩ : Two Wq25 rq25 (.bool qb25) (.slice qA25 qs25.length qc25) := (HC25.out.1 0 _ rfl).two rfl
        go_wp2_with fail
        refine (hd.out.d2 _ _ _ ((HC25.out.1 5 _ rfl).at_) ((HC25.out.1 0 _ rfl).at_)).mono ?_
        rintro e wq26 ⟨qv26, rv26, rfl, ⟨qb26, qA26, qc26, qs26, rfl, qg26, ql26⟩, ⟨rb26, rA26, rc26, rs26, rfl, rg26, rl26⟩, hb26⟩
        have hv26 := (((((HC25.out.1.step hb26 rfl).told0 rg26 rl26).told0 qg26 ql26).laid 28).swap).laid 28
        rw [size_alloc] at hv26
        have hl26 : Below w.heap.size w ((wq26.alloc (.cells #[.bool qb26, .slice qA26 qs26.length qc26] 28)).alloc (.cells #[.bool rb26, .slice rA26 rs26.length rc26] 28)) := (((below_then HC25.out.2 hb26).alloc (Nat.le_trans HC25.out.2.size hb26.size) (.cells #[.bool qb26, .slice qA26 qs26.length qc26] 28)).alloc (Nat.le_trans (Nat.le_trans HC25.out.2.size hb26.size) (by simp)) (.cells #[.bool rb26, .slice rA26 rs26.length rc26] 28))
        obtain ⟨Wq26, hW26⟩ : ∃ W : World, W = (wq26.alloc (.cells #[.bool qb26, .slice qA26 qs26.length qc26] 28)).alloc (.cells #[.bool rb26, .slice rA26 rs26.length rc26] 28) := ⟨_, rfl⟩
        obtain ⟨rq26, hrq26⟩ : ∃ r : Nat, r = wq26.heap.size := ⟨_, rfl⟩
        obtain ⟨rr26, hrr26⟩ : ∃ r : Nat, r = wq26.heap.size + 1 := ⟨_, rfl⟩
        rw [← hW26] at hv26 hl26
        rw [← hrr26] at hv26
        rw [← hrq26] at hv26
        have HC26 := Lib.hid (And.intro hv26 hl26)
        have HW26 := Lib.hid hW26
        have HRq26 := Lib.hid hrq26
        have HRr26 := Lib.hid hrr26
        clear px0 px1 pg0 pg1
        clear hv26 hl26 hW26 hb26 hrq26 qg26 ql26 hrr26 rg26 rl26 HC25
        go_upto_region 12 with fail
        rw [← HW26.out]
        rw [← HRr26.out]
        rw [← HRq26.out]
        clear HW26 HRq26 HRr26
        obtain ⟨py0, py1⟩ : Two Wq26 r9 (.bool yb) (.slice yA yz.length yc) := (HC26.out.1 6 _ rfl).two rfl
        obtain ⟨pg0, pg1⟩ : Two Wq26 rq25 (.bool qb25) (.slice qA25 qs25.length qc25) := (HC26.out.1 2 _ rfl).two rfl
        go_wp2_with fail
        refine (hd.out.d3 _ _ _ ((HC26.out.1 6 _ rfl).at_) ((HC26.out.1 2 _ rfl).at_)).mono ?_
        rintro e wq27 ⟨qv27, rv27, rfl, ⟨qb27, qA27, qc27, qs27, rfl, qg27, ql27⟩, ⟨rb27, rA27, rc27, rs27, rfl, rg27, rl27⟩, hb27⟩
        have hv27 := (((((HC26.out.1.step hb27 rfl).told0 rg27 rl27).told0 qg27 ql27).laid 28).swap).laid 28
        rw [size_alloc] at hv27
        have hl27 : Below w.heap.size w ((wq27.alloc (.cells #[.bool qb27, .slice qA27 qs27.length qc27] 28)).alloc (.cells #[.bool rb27, .slice rA27 rs27.length rc27] 28)) := (((below_then HC26.out.2 hb27).alloc (Nat.le_trans HC26.out.2.size hb27.size) (.cells #[.bool qb27, .slice qA27 qs27.length qc27] 28)).alloc (Nat.le_trans (Nat.le_trans HC26.out.2.size hb27.size) (by simp)) (.cells #[.bool rb27, .slice rA27 rs27.length rc27] 28))
        obtain ⟨Wq27, hW27⟩ : ∃ W : World, W = (wq27.alloc (.cells #[.bool qb27, .slice qA27 qs27.length qc27] 28)).alloc (.cells #[.bool rb27, .slice rA27 rs27.length rc27] 28) := ⟨_, rfl⟩
        obtain ⟨rq27, hrq27⟩ : ∃ r : Nat, r = wq27.heap.size := ⟨_, rfl⟩
        obtain ⟨rr27, hrr27⟩ : ∃ r : Nat, r = wq27.heap.size + 1 := ⟨_, rfl⟩
        rw [← hW27] at hv27 hl27
        rw [← hrr27] at hv27
        rw [← hrq27] at hv27
        have HC27 := Lib.hid (And.intro hv27 hl27)
        have HW27 := Lib.hid hW27
        have HRq27 := Lib.hid hrq27
        have HRr27 := Lib.hid hrr27
        clear py0 py1 pg0 pg1
        clear hv27 hl27 hW27 hb27 hrq27 qg27 ql27 hrr27 rg27 rl27 HC26
        go_upto_region 13 with fail
        rw [← HW27.out]
        rw [← HRr27.out]
        rw [← HRq27.out]
        clear HW27 HRq27 HRr27
        go_cut [149] (fun sl149 wx => sl149 = .bool false ∧ ∃ W : World, W = wx ∧ MVars W [⟨true, rr27, rb27, rA27, rs27.length, rc27, (0 : Int), 0⟩, ⟨true, rq27, qb27, qA27, qs27.length, qc27, n1, 0⟩, ⟨true, rr26, rb26, rA26, rs26.length, rc26, (0 : Int), 0⟩, ⟨true, rq26, qb26, qA26, qs26.length, qc26, m1, 0⟩, ⟨true, rq25, qb25, qA25, qs25.length, qc25, g, 0⟩, ⟨true, rr4, rb4, rA4, rs4.length, rc4, r, 0⟩, ⟨true, rq4, qb4, qA4, qs4.length, qc4, q, 0⟩, ⟨true, r10, zb, zA, zz.length, zc, z, 0⟩, ⟨true, r9, yb, yA, yz.length, yc, y, 0⟩, ⟨true, r8, xb, xA, xz.length, xc, x, 0⟩] ∧ Below w.heap.size w W)
        case first => as_aux_lemma =>
          clear HER HZ hne hey
          have HD29 := Lib.hid (And.intro HC27.out.1.drew HC27.out.2.drew)
          refine wp_region_held_drew (S := MCells [⟨true, rr27, rb27, rA27, rs27.length, rc27, (0 : Int), 0⟩, ⟨true, rq27, qb27, qA27, qs27.length, qc27, n1, 0⟩, ⟨true, rr26, rb26, rA26, rs26.length, rc26, (0 : Int), 0⟩, ⟨true, rq26, qb26, qA26, qs26.length, qc26, m1, 0⟩, ⟨true, rq25, qb25, qA25, qs25.length, qc25, g, 0⟩, ⟨true, rr4, rb4, rA4, rs4.length, rc4, r, 0⟩, ⟨true, rq4, qb4, qA4, qs4.length, qc4, q, 0⟩, ⟨true, r10, zb, zA, zz.length, zc, z, 0⟩, ⟨true, r9, yb, yA, yz.length, yc, y, 0⟩, ⟨true, r8, xb, xA, xz.length, xc, x, 0⟩]) (by kernel_rfl) (HD29.out.1.cells) (fun hH0 => ?_)
          refine wpAnyH_take (i := 0) (v := (.int .i64 0)) rfl (by kernel_rfl) (by kernel_rfl) (by kernel_rfl) (fun _ _ _ h => h) (Or.inl ⟨by kernel_rfl, fun _ _ => by kernel_rfl⟩) hH0 ?r65
          change wpAnyH _ _ _ _ _ _ _ (Act.put _ (some 114) _) _
          simp only [Act.put, List.setIfInBounds_toArray, List.set_cons_zero, List.set_cons_succ]
          refine wpAnyH_take (i := 1) (v := (.bool false)) rfl (by kernel_rfl) (by kernel_rfl) (by kernel_rfl) (fun _ _ _ h => h) (Or.inl ⟨by kernel_rfl, fun w0 hS0 => by go_simp⟩) hH0 ?r66
          change wpAnyH _ _ _ _ _ _ _ (Act.put _ (some 115) _) _
          simp only [Act.put, List.setIfInBounds_toArray, List.set_cons_zero, List.set_cons_succ]
          refine wpAnyH_take (i := 2) (v := (.bool false)) rfl (by kernel_rfl) (by kernel_rfl) (by kernel_rfl) (fun _ _ _ h => h) (Or.inl ⟨by kernel_rfl, fun _ _ => by kernel_rfl⟩) hH0 ?r67
          change wpAnyH _ _ _ _ _ _ _ (Act.put _ (some 116) _) _
          simp only [Act.put, List.setIfInBounds_toArray, List.set_cons_zero, List.set_cons_succ]
          refine wpAnyH_take (i := 3) (v := (.int .i64 0)) rfl (by kernel_rfl) (by kernel_rfl) (by kernel_rfl) (fun _ _ _ h => h) (Or.inl ⟨by kernel_rfl, fun _ _ => by kernel_rfl⟩) hH0 ?r68
          change wpAnyH _ _ _ _ _ _ _ (Act.put _ (some 117) _) _
          simp only [Act.put, List.setIfInBounds_toArray, List.set_cons_zero, List.set_cons_succ]
          refine wpAnyH_take (i := 4) (v := (.bool false)) rfl (by kernel_rfl) (by kernel_rfl) (by kernel_rfl) (fun _ _ _ h => h) (Or.inl ⟨by kernel_rfl, fun w0 hS0 => by go_simp⟩) hH0 ?r69
          change wpAnyH _ _ _ _ _ _ _ (Act.put _ (some 118) _) _
          simp only [Act.put, List.setIfInBounds_toArray, List.set_cons_zero, List.set_cons_succ]
          refine wpAnyH_take (i := 5) (v := (.bool false)) rfl (by kernel_rfl) (by kernel_rfl) (by kernel_rfl) (fun _ _ _ h => h) (Or.inl ⟨by kernel_rfl, fun _ _ => by kernel_rfl⟩) hH0 ?r70
          change wpAnyH _ _ _ _ _ _ _ (Act.put _ (some 119) _) _
          simp only [Act.put, List.setIfInBounds_toArray, List.set_cons_zero, List.set_cons_succ]
          refine wpAnyH_take (i := 6) (v := (.bool false)) rfl (by kernel_rfl) (by kernel_rfl) (by kernel_rfl) (fun _ _ _ h => h) (Or.inl ⟨by kernel_rfl, fun _ _ => by kernel_rfl⟩) hH0 ?r71
          change wpAnyH _ _ _ _ _ _ _ (Act.put _ (some 120) _) _
          simp only [Act.put, List.setIfInBounds_toArray, List.set_cons_zero, List.set_cons_succ]
          refine wpAnyH_take (i := 7) (v := (.agg #[.bool rb26, .slice rA26 rs26.length rc26])) rfl (by kernel_rfl) (by kernel_rfl) (by kernel_rfl) (fun _ _ _ h => h) (Or.inl ⟨by kernel_rfl, fun w0 hS0 => run_loadP (hS0 2 _ rfl rfl) (.tmp 16) (by kernel_rfl) (by kernel_rfl)⟩) hH0 ?r72
          change wpAnyH _ _ _ _ _ _ _ (Act.put _ (some 121) _) _
          simp only [Act.put, List.setIfInBounds_toArray, List.set_cons_zero, List.set_cons_succ]
          refine wpAnyH_ready (rs := [8]) (by kernel_rfl) (by simp) ?_
          refine AllReadyH.cons rfl (fun K hK0 => ?d73) (AllReadyH.nil)
          have hK := hK0.out
          clear hK0
          rw [if_pos (by kernel_rfl)]
          refine wp_go_call 22 #[(.agg #[.bool rb26, .slice rA26 rs26.length rc26])] (fun _ => by kernel_rfl) ((hd.out.s0 _ _ ((HD29.out.1 2 _ rfl).at_)).mono ?_)
          rintro e wq30 ⟨rfl, hb30⟩
          have HD30 := Lib.hid (And.intro (HD29.out.1.step hb30 rfl) (below_then HD29.out.2 hb30))
          clear hb30 HD29
          refine ⟨(.int .i64 0), rfl, hK _ _ (HD30.out.1.cells) (fun hH30 => ?_)⟩
          clear hK K hH0
          change wpAnyH _ _ _ _ _ _ _ (Act.put _ (some 122) _) _
          simp only [Act.put, List.setIfInBounds_toArray, List.set_cons_zero, List.set_cons_succ]
          refine wpAnyH_take (i := 9) (v := (.bool false)) rfl (by kernel_rfl) (by kernel_rfl) (by kernel_rfl) (fun _ _ _ h => h) (Or.inl ⟨by kernel_rfl, fun w0 hS0 => by go_simp⟩) hH30 ?r74
          change wpAnyH _ _ _ _ _ _ _ (Act.put _ (some 123) _) _
          simp only [Act.put, List.setIfInBounds_toArray, List.set_cons_zero, List.set_cons_succ]
          refine wpAnyH_take (i := 10) (v := (.bool false)) rfl (by kernel_rfl) (by kernel_rfl) (by kernel_rfl) (fun _ _ _ h => h) (Or.inl ⟨by kernel_rfl, fun _ _ => by kernel_rfl⟩) hH30 ?r75
          change wpAnyH _ _ _ _ _ _ _ (Act.put _ (some 124) _) _
          simp only [Act.put, List.setIfInBounds_toArray, List.set_cons_zero, List.set_cons_succ]
          refine wpAnyH_take (i := 11) (v := (.bool false)) rfl (by kernel_rfl) (by kernel_rfl) (by kernel_rfl) (fun _ _ _ h => h) (Or.inl ⟨by kernel_rfl, fun _ _ => by kernel_rfl⟩) hH30 ?r76
          change wpAnyH _ _ _ _ _ _ _ (Act.put _ (some 125) _) _
          simp only [Act.put, List.setIfInBounds_toArray, List.set_cons_zero, List.set_cons_succ]
          refine wpAnyH_take (i := 12) (v := (.agg #[.bool rb27, .slice rA27 rs27.length rc27])) rfl (by kernel_rfl) (by kernel_rfl) (by kernel_rfl) (fun _ _ _ h => h) (Or.inl ⟨by kernel_rfl, fun w0 hS0 => run_loadP (hS0 0 _ rfl rfl) (.tmp 18) (by kernel_rfl) (by kernel_rfl)⟩) hH30 ?r77
          change wpAnyH _ _ _ _ _ _ _ (Act.put _ (some 126) _) _
          simp only [Act.put, List.setIfInBounds_toArray, List.set_cons_zero, List.set_cons_succ]
          refine wpAnyH_ready (rs := [13]) (by kernel_rfl) (by simp) ?_
          refine AllReadyH.cons rfl (fun K hK0 => ?d78) (AllReadyH.nil)
          have hK := hK0.out
          clear hK0
          rw [if_pos (by kernel_rfl)]
          refine wp_go_call 22 #[(.agg #[.bool rb27, .slice rA27 rs27.length rc27])] (fun _ => by kernel_rfl) ((hd.out.s0 _ _ ((HD30.out.1 0 _ rfl).at_)).mono ?_)
          rintro e wq31 ⟨rfl, hb31⟩
          have HD31 := Lib.hid (And.intro (HD30.out.1.step hb31 rfl) (below_then HD30.out.2 hb31))
          clear hb31 HD30
          refine ⟨(.int .i64 0), rfl, hK _ _ (HD31.out.1.cells) (fun hH31 => ?_)⟩
          clear hK K hH30
          change wpAnyH _ _ _ _ _ _ _ (Act.put _ (some 127) _) _
          simp only [Act.put, List.setIfInBounds_toArray, List.set_cons_zero, List.set_cons_succ]
          refine wpAnyH_take (i := 14) (v := (.bool false)) rfl (by kernel_rfl) (by kernel_rfl) (by kernel_rfl) (fun _ _ _ h => h) (Or.inl ⟨by kernel_rfl, fun w0 hS0 => by go_simp⟩) hH31 ?r79
          change wpAnyH _ _ _ _ _ _ _ (Act.put _ (some 128) _) _
          simp only [Act.put, List.setIfInBounds_toArray, List.set_cons_zero, List.set_cons_succ]
          refine wpAnyH_take (i := 15) (v := (.bool false)) rfl (by kernel_rfl) (by kernel_rfl) (by kernel_rfl) (fun _ _ _ h => h) (Or.inl ⟨by kernel_rfl, fun _ _ => by kernel_rfl⟩) hH31 ?r80
          change wpAnyH _ _ _ _ _ _ _ (Act.put _ (some 129) _) _
          simp only [Act.put, List.setIfInBounds_toArray, List.set_cons_zero, List.set_cons_succ]
          refine wpAnyH_take (i := 16) (v := (.bool false)) rfl (by kernel_rfl) (by kernel_rfl) (by kernel_rfl) (fun _ _ _ h => h) (Or.inl ⟨by kernel_rfl, fun _ _ => by kernel_rfl⟩) hH31 ?r81
          change wpAnyH _ _ _ _ _ _ _ (Act.put _ (some 130) _) _
          simp only [Act.put, List.setIfInBounds_toArray, List.set_cons_zero, List.set_cons_succ]
          refine wpAnyH_take (i := 17) (v := (.agg #[.bool qb25, .slice qA25 qs25.length qc25])) rfl (by kernel_rfl) (by kernel_rfl) (by kernel_rfl) (fun _ _ _ h => h) (Or.inl ⟨by kernel_rfl, fun w0 hS0 => run_loadP (hS0 4 _ rfl rfl) (.tmp 14) (by kernel_rfl) (by kernel_rfl)⟩) hH31 ?r82
          change wpAnyH _ _ _ _ _ _ _ (Act.put _ (some 131) _) _
          simp only [Act.put, List.setIfInBounds_toArray, List.set_cons_zero, List.set_cons_succ]
          refine wpAnyH_ready (rs := [18]) (by kernel_rfl) (by simp) ?_
          refine AllReadyH.cons rfl (fun K hK0 => ?d83) (AllReadyH.nil)
          have hK := hK0.out
          clear hK0
          rw [if_pos (by kernel_rfl)]
          refine wp_go_call 22 #[(.agg #[.bool qb25, .slice qA25 qs25.length qc25])] (fun _ => by kernel_rfl) ((hd.out.sg _ _ ((HD31.out.1 4 _ rfl).at_)).mono ?_)
          rintro e wq32 ⟨rfl, hb32⟩
          have HD32 := Lib.hid (And.intro (HD31.out.1.step hb32 rfl) (below_then HD31.out.2 hb32))
          clear hb32 HD31
          refine ⟨(.int .i64 1), rfl, hK _ _ (HD32.out.1.cells) (fun hH32 => ?_)⟩
          clear hK K hH31
          change wpAnyH _ _ _ _ _ _ _ (Act.put _ (some 132) _) _
          simp only [Act.put, List.setIfInBounds_toArray, List.set_cons_zero, List.set_cons_succ]
          refine wpAnyH_take (i := 19) (v := (.bool false)) rfl (by kernel_rfl) (by kernel_rfl) (by kernel_rfl) (fun _ _ _ h => h) (Or.inl ⟨by kernel_rfl, fun w0 hS0 => by go_simp⟩) hH32 ?r84
          change wpAnyH _ _ _ _ _ _ _ (Act.put _ (some 133) _) _
          simp only [Act.put, List.setIfInBounds_toArray, List.set_cons_zero, List.set_cons_succ]
          refine wpAnyH_take (i := 20) (v := (.bool false)) rfl (by kernel_rfl) (by kernel_rfl) (by kernel_rfl) (fun _ _ _ h => h) (Or.inl ⟨by kernel_rfl, fun _ _ => by kernel_rfl⟩) hH32 ?r85
          change wpAnyH _ _ _ _ _ _ _ (Act.put _ (some 134) _) _
          simp only [Act.put, List.setIfInBounds_toArray, List.set_cons_zero, List.set_cons_succ]
          refine wpAnyH_take (i := 21) (v := (.bool false)) rfl (by kernel_rfl) (by kernel_rfl) (by kernel_rfl) (fun _ _ _ h => h) (Or.inl ⟨by kernel_rfl, fun _ _ => by kernel_rfl⟩) hH32 ?r86
          change wpAnyH _ _ _ _ _ _ _ (Act.put _ (some 135) _) _
          simp only [Act.put, List.setIfInBounds_toArray, List.set_cons_zero, List.set_cons_succ]
          refine wpAnyH_take (i := 22) (v := (.agg #[.bool xb, .slice xA xz.length xc])) rfl (by kernel_rfl) (by kernel_rfl) (by kernel_rfl) (fun _ _ _ h => h) (Or.inl ⟨by kernel_rfl, fun w0 hS0 => run_loadP (hS0 9 _ rfl rfl) (.tmp 8) (by kernel_rfl) (by kernel_rfl)⟩) hH32 ?r87
          change wpAnyH _ _ _ _ _ _ _ (Act.put _ (some 136) _) _
          simp only [Act.put, List.setIfInBounds_toArray, List.set_cons_zero, List.set_cons_succ]
          refine wpAnyH_take (i := 23) (v := (.agg #[.bool zb, .slice zA zz.length zc])) rfl (by kernel_rfl) (by kernel_rfl) (by kernel_rfl) (fun _ _ _ h => h) (Or.inl ⟨by kernel_rfl, fun w0 hS0 => run_loadP (hS0 7 _ rfl rfl) (.tmp 10) (by kernel_rfl) (by kernel_rfl)⟩) hH32 ?r88
          change wpAnyH _ _ _ _ _ _ _ (Act.put _ (some 137) _) _
          simp only [Act.put, List.setIfInBounds_toArray, List.set_cons_zero, List.set_cons_succ]
          refine wpAnyH_take (i := 25) (v := (.agg #[.bool yb, .slice yA yz.length yc])) rfl (by kernel_rfl) (by kernel_rfl) (by kernel_rfl) (fun _ _ _ h => h) (Or.inl ⟨by kernel_rfl, fun w0 hS0 => run_loadP (hS0 8 _ rfl rfl) (.tmp 9) (by kernel_rfl) (by kernel_rfl)⟩) hH32 ?r89
          change wpAnyH _ _ _ _ _ _ _ (Act.put _ (some 139) _) _
          simp only [Act.put, List.setIfInBounds_toArray, List.set_cons_zero, List.set_cons_succ]
          refine wpAnyH_take (i := 26) (v := (.agg #[.bool zb, .slice zA zz.length zc])) rfl (by kernel_rfl) (by kernel_rfl) (by kernel_rfl) (fun _ _ _ h => h) (Or.inl ⟨by kernel_rfl, fun w0 hS0 => run_loadP (hS0 7 _ rfl rfl) (.tmp 10) (by kernel_rfl) (by kernel_rfl)⟩) hH32 ?r90
          change wpAnyH _ _ _ _ _ _ _ (Act.put _ (some 140) _) _
          simp only [Act.put, List.setIfInBounds_toArray, List.set_cons_zero, List.set_cons_succ]
          refine wpAnyH_take (i := 29) (v := (.agg #[.bool qb25, .slice qA25 qs25.length qc25])) rfl (by kernel_rfl) (by kernel_rfl) (by kernel_rfl) (fun _ _ _ h => h) (Or.inl ⟨by kernel_rfl, fun w0 hS0 => run_loadP (hS0 4 _ rfl rfl) (.tmp 14) (by kernel_rfl) (by kernel_rfl)⟩) hH32 ?r91
          change wpAnyH _ _ _ _ _ _ _ (Act.put _ (some 143) _) _
          simp only [Act.put, List.setIfInBounds_toArray, List.set_cons_zero, List.set_cons_succ]
          refine wpAnyH_take (i := 30) (v := (.agg #[.bool zb, .slice zA zz.length zc])) rfl (by kernel_rfl) (by kernel_rfl) (by kernel_rfl) (fun _ _ _ h => h) (Or.inl ⟨by kernel_rfl, fun w0 hS0 => run_loadP (hS0 7 _ rfl rfl) (.tmp 10) (by kernel_rfl) (by kernel_rfl)⟩) hH32 ?r92
          change wpAnyH _ _ _ _ _ _ _ (Act.put _ (some 144) _) _
          simp only [Act.put, List.setIfInBounds_toArray, List.set_cons_zero, List.set_cons_succ]
          refine wpAnyH_ready (rs := [24]) (by kernel_rfl) (by simp) ?_
          refine AllReadyH.cons rfl (fun K hK0 => ?d93) (AllReadyH.nil)
          have hK := hK0.out
          clear hK0
          rw [if_pos (by kernel_rfl)]
          refine wp_go_call 42 #[(.agg #[.bool xb, .slice xA xz.length xc]), (.agg #[.bool zb, .slice zA zz.length zc])] (fun _ => by kernel_rfl) ((hd.out.xz _ _ _ ((HD32.out.1 9 _ rfl).at_) ((HD32.out.1 7 _ rfl).at_)).mono ?_)
          rintro e wq33 ⟨qv33, rfl, ⟨qb33, qA33, qc33, qs33, rfl, qg33, ql33⟩, hb33⟩
          have HD33 := Lib.hid (And.intro ((HD32.out.1.step hb33 rfl).told0 qg33 ql33) (below_then HD32.out.2 hb33))
          clear qg33 ql33 hb33 HD32
          refine ⟨(.agg #[.bool qb33, .slice qA33 qs33.length qc33]), rfl, hK _ _ (HD33.out.1.tail.cells) (fun hH33 => ?_)⟩
          clear hK K hH32
          change wpAnyH _ _ _ _ _ _ _ (Act.put _ (some 138) _) _
          simp only [Act.put, List.setIfInBounds_toArray, List.set_cons_zero, List.set_cons_succ]
          refine wpAnyH_ready (rs := [27]) (by kernel_rfl) (by simp) ?_
          refine AllReadyH.cons rfl (fun K hK0 => ?d94) (AllReadyH.nil)
          have hK := hK0.out
          clear hK0
          rw [if_pos (by kernel_rfl)]
          refine wp_go_call 42 #[(.agg #[.bool yb, .slice yA yz.length yc]), (.agg #[.bool zb, .slice zA zz.length zc])] (fun _ => by kernel_rfl) ((hd.out.yz _ _ _ ((HD33.out.1 9 _ rfl).at_) ((HD33.out.1 8 _ rfl).at_)).mono ?_)
          rintro e wq34 ⟨qv34, rfl, ⟨qb34, qA34, qc34, qs34, rfl, qg34, ql34⟩, hb34⟩
          have HD34 := Lib.hid (And.intro ((HD33.out.1.step hb34 rfl).told0 qg34 ql34) (below_then HD33.out.2 hb34))
          clear qg34 ql34 hb34 HD33
          refine ⟨(.agg #[.bool qb34, .slice qA34 qs34.length qc34]), rfl, hK _ _ (HD34.out.1.tail.tail.cells) (fun hH34 => ?_)⟩
          clear hK K hH33
          change wpAnyH _ _ _ _ _ _ _ (Act.put _ (some 141) _) _
          simp only [Act.put, List.setIfInBounds_toArray, List.set_cons_zero, List.set_cons_succ]
          refine wpAnyH_ready (rs := [28]) (by kernel_rfl) (by simp) ?_
          refine AllReadyH.cons rfl (fun K hK0 => ?d95) (AllReadyH.nil)
          have hK := hK0.out
          clear hK0
          rw [if_pos (by kernel_rfl)]
          refine wp_go_call 44 #[(.agg #[.bool qb33, .slice qA33 qs33.length qc33]), (.agg #[.bool qb34, .slice qA34 qs34.length qc34])] (fun _ => by kernel_rfl) ((hd.out.gab _ _ _ ((HD34.out.1 1 _ rfl).at_) ((HD34.out.1 0 _ rfl).at_)).mono ?_)
          rintro e wq35 ⟨qv35, rfl, ⟨qb35, qA35, qc35, qs35, rfl, qg35, ql35⟩, hb35⟩
          have HD35 := Lib.hid (And.intro ((HD34.out.1.step hb35 rfl).told0 qg35 ql35) (below_then HD34.out.2 hb35))
          clear qg35 ql35 hb35 HD34
          refine ⟨(.agg #[.bool qb35, .slice qA35 qs35.length qc35]), rfl, hK _ _ (HD35.out.1.tail.tail.tail.cells) (fun hH35 => ?_)⟩
          clear hK K hH34
          change wpAnyH _ _ _ _ _ _ _ (Act.put _ (some 142) _) _
          simp only [Act.put, List.setIfInBounds_toArray, List.set_cons_zero, List.set_cons_succ]
          refine wpAnyH_ready (rs := [31]) (by kernel_rfl) (by simp) ?_
          refine AllReadyH.cons rfl (fun K hK0 => ?d96) (AllReadyH.nil)
          have hK := hK0.out
          clear hK0
          rw [if_pos (by kernel_rfl)]
          refine wp_go_call 36 #[(.agg #[.bool zb, .slice zA zz.length zc])] (fun _ => by kernel_rfl) ((hd.out.az _ _ ((HD35.out.1 10 _ rfl).at_)).mono ?_)
          rintro e wq36 ⟨qv36, rfl, ⟨qb36, qA36, qc36, qs36, rfl, qg36, ql36⟩, hb36⟩
          have HD36 := Lib.hid (And.intro ((HD35.out.1.step hb36 rfl).told0 qg36 ql36) (below_then HD35.out.2 hb36))
          clear qg36 ql36 hb36 HD35
          refine ⟨(.agg #[.bool qb36, .slice qA36 qs36.length qc36]), rfl, hK _ _ (HD36.out.1.tail.tail.tail.tail.cells) (fun hH36 => ?_)⟩
          clear hK K hH35
          change wpAnyH _ _ _ _ _ _ _ (Act.put _ (some 145) _) _
          simp only [Act.put, List.setIfInBounds_toArray, List.set_cons_zero, List.set_cons_succ]
          refine wpAnyH_ready (rs := [32]) (by kernel_rfl) (by simp) ?_
          refine AllReadyH.cons rfl (fun K hK0 => ?d97) (AllReadyH.nil)
          have hK := hK0.out
          clear hK0
          rw [if_pos (by kernel_rfl)]
          refine wp_go_call 42 #[(.agg #[.bool qb25, .slice qA25 qs25.length qc25]), (.agg #[.bool qb36, .slice qA36 qs36.length qc36])] (fun _ => by kernel_rfl) ((hd.out.mg _ _ _ ((HD36.out.1 8 _ rfl).at_) ((HD36.out.1 0 _ rfl).at_)).mono ?_)
          rintro e wq37 ⟨qv37, rfl, ⟨qb37, qA37, qc37, qs37, rfl, qg37, ql37⟩, hb37⟩
          have HD37 := Lib.hid (And.intro ((HD36.out.1.step hb37 rfl).told0 qg37 ql37) (below_then HD36.out.2 hb37))
          clear qg37 ql37 hb37 HD36
          refine ⟨(.agg #[.bool qb37, .slice qA37 qs37.length qc37]), rfl, hK _ _ (HD37.out.1.tail.tail.tail.tail.tail.cells) (fun hH37 => ?_)⟩
          clear hK K hH36
          change wpAnyH _ _ _ _ _ _ _ (Act.put _ (some 146) _) _
          simp only [Act.put, List.setIfInBounds_toArray, List.set_cons_zero, List.set_cons_succ]
          refine wpAnyH_ready (rs := [33]) (by kernel_rfl) (by simp) ?_
          refine AllReadyH.cons rfl (fun K hK0 => ?d98) (AllReadyH.nil)
          have hK := hK0.out
          clear hK0
          rw [if_pos (by kernel_rfl)]
          refine wp_go_call 65 #[(.agg #[.bool qb35, .slice qA35 qs35.length qc35]), (.agg #[.bool qb37, .slice qA37 qs37.length qc37])] (fun _ => by kernel_rfl) ((hd.out.sk _ _ _ ((HD37.out.1 2 _ rfl).at_) ((HD37.out.1 0 _ rfl).at_)).mono ?_)
          rintro e wq38 ⟨rfl, hb38⟩
          have HD38 := Lib.hid (And.intro (HD37.out.1.step hb38 rfl) (below_then HD37.out.2 hb38))
          clear hb38 HD37
          refine ⟨(.bool true), rfl, hK _ _ (HD38.out.1.tail.tail.tail.tail.tail.cells) (fun hH38 => ?_)⟩
          clear hK K hH37
          change wpAnyH _ _ _ _ _ _ _ (Act.put _ (some 147) _) _
          simp only [Act.put, List.setIfInBounds_toArray, List.set_cons_zero, List.set_cons_succ]
          refine wpAnyH_take (i := 34) (v := (.bool false)) rfl (by kernel_rfl) (by kernel_rfl) (by kernel_rfl) (fun _ _ _ h => h) (Or.inl ⟨by kernel_rfl, fun _ _ => by kernel_rfl⟩) hH38 ?r99
          change wpAnyH _ _ _ _ _ _ _ (Act.put _ (some 148) _) _
          simp only [Act.put, List.setIfInBounds_toArray, List.set_cons_zero, List.set_cons_succ]
          refine wpAnyH_take (i := 35) (v := (.bool false)) rfl (by kernel_rfl) (by kernel_rfl) (by kernel_rfl) (fun _ _ _ h => h) (Or.inl ⟨by kernel_rfl, fun _ _ => by kernel_rfl⟩) hH38 ?r100
          change wpAnyH _ _ _ _ _ _ _ (Act.put _ (some 149) _) _
          simp only [Act.put, List.setIfInBounds_toArray, List.set_cons_zero, List.set_cons_succ]
          refine wpAnyH_done (by kernel_rfl) ?_ _
          go_wp2
          go_meet
          exact ⟨rfl, _, rfl, HD38.out.1.tail.tail.tail.tail.tail, HD38.out.2⟩
        case rest =>
          obtain ⟨rfl, Wq28, rfl, hvs, hbl⟩ := hcut
          have HC28 := Lib.hid (And.intro hvs hbl)
          clear hvs hbl HC27
          obtain ⟨px0, px1⟩ : Two Wq28 r8 (.bool xb) (.slice xA xz.length xc) := (HC28.out.1 9 _ rfl).two rfl
          obtain ⟨pz0, pz1⟩ : Two Wq28 r10 (.bool zb) (.slice zA zz.length zc) := (HC28.out.1 7 _ rfl).two rfl
          go_wp2_with fail
          refine (hd.out.d4 _ _ _ ((HC28.out.1 9 _ rfl).at_) ((HC28.out.1 7 _ rfl).at_)).mono ?_
          rintro e wq39 ⟨qv39, rv39, rfl, ⟨qb39, qA39, qc39, qs39, rfl, qg39, ql39⟩, ⟨rb39, rA39, rc39, rs39, rfl, rg39, rl39⟩, hb39⟩
          have hv39 := (((((HC28.out.1.step hb39 rfl).told0 rg39 rl39).told0 qg39 ql39).laid 28).swap).laid 28
          rw [size_alloc] at hv39
          have hl39 : Below w.heap.size w ((wq39.alloc (.cells #[.bool qb39, .slice qA39 qs39.length qc39] 28)).alloc (.cells #[.bool rb39, .slice rA39 rs39.length rc39] 28)) := (((below_then HC28.out.2 hb39).alloc (Nat.le_trans HC28.out.2.size hb39.size) (.cells #[.bool qb39, .slice qA39 qs39.length qc39] 28)).alloc (Nat.le_trans (Nat.le_trans HC28.out.2.size hb39.size) (by simp)) (.cells #[.bool rb39, .slice rA39 rs39.length rc39] 28))
          obtain ⟨Wq39, hW39⟩ : ∃ W : World, W = (wq39.alloc (.cells #[.bool qb39, .slice qA39 qs39.length qc39] 28)).alloc (.cells #[.bool rb39, .slice rA39 rs39.length rc39] 28) := ⟨_, rfl⟩
          obtain ⟨rq39, hrq39⟩ : ∃ r : Nat, r = wq39.heap.size := ⟨_, rfl⟩
          obtain ⟨rr39, hrr39⟩ : ∃ r : Nat, r = wq39.heap.size + 1 := ⟨_, rfl⟩
          rw [← hW39] at hv39 hl39
          rw [← hrr39] at hv39
          rw [← hrq39] at hv39
          have HC39 := Lib.hid (And.intro hv39 hl39)
          have HW39 := Lib.hid hW39
          have HRq39 := Lib.hid hrq39
          have HRr39 := Lib.hid hrr39
          clear px0 px1 pz0 pz1
          clear hv39 hl39 hW39 hb39 hrq39 qg39 ql39 hrr39 rg39 rl39 HC28
          go_upto_region 16 with fail
          rw [← HW39.out]
          rw [← HRr39.out]
          rw [← HRq39.out]
          clear HW39 HRq39 HRr39
          rcases HZ.out with he4 | ⟨he4, hz⟩
          · subst he4
            go_wp2_with fail
            refine (awake_any _).mono ?_
            rintro e wq40 ⟨rfl, hb40⟩
            have HC40 := Lib.hid (And.intro (HC39.out.1.step hb40 rfl) (below_then HC39.out.2 hb40))
            clear hb40 HC39
            go_wp2
            go_ret
            exact ⟨rfl, HC40.out.2⟩
          · subst he4
            have HZ2 := Lib.hid hz
            clear hz HZ
            obtain ⟨pu0, pu1⟩ : Two Wq39 rr39 (.bool rb39) (.slice rA39 rs39.length rc39) := (HC39.out.1 0 _ rfl).two rfl
            go_wp2_with fail
            refine (hd.out.su _ _ ((HC39.out.1 0 _ rfl).at_)).mono ?_
            rintro e wq41 ⟨rfl, hb41⟩
            have HC41 := Lib.hid (And.intro (HC39.out.1.step hb41 rfl) (below_then HC39.out.2 hb41))
            clear pu0 pu1
            clear hb41 HC39
            by_cases hu : eu = 0
            · subst hu
              obtain ⟨py0, py1⟩ : Two wq41 r9 (.bool yb) (.slice yA yz.length yc) := (HC41.out.1 10 _ rfl).two rfl
              obtain ⟨pz0, pz1⟩ : Two wq41 r10 (.bool zb) (.slice zA zz.length zc) := (HC41.out.1 9 _ rfl).two rfl
              go_wp2_with fail
              refine (hd.out.d5 _ _ _ ((HC41.out.1 10 _ rfl).at_) ((HC41.out.1 9 _ rfl).at_)).mono ?_
              rintro e wq42 ⟨qv42, rv42, rfl, ⟨qb42, qA42, qc42, qs42, rfl, qg42, ql42⟩, ⟨rb42, rA42, rc42, rs42, rfl, rg42, rl42⟩, hb42⟩
              have hv42 := (((((HC41.out.1.step hb42 rfl).told0 rg42 rl42).told0 qg42 ql42).laid 28).swap).laid 28
              rw [size_alloc] at hv42
              have hl42 : Below w.heap.size w ((wq42.alloc (.cells #[.bool qb42, .slice qA42 qs42.length qc42] 28)).alloc (.cells #[.bool rb42, .slice rA42 rs42.length rc42] 28)) := (((below_then HC41.out.2 hb42).alloc (Nat.le_trans HC41.out.2.size hb42.size) (.cells #[.bool qb42, .slice qA42 qs42.length qc42] 28)).alloc (Nat.le_trans (Nat.le_trans HC41.out.2.size hb42.size) (by simp)) (.cells #[.bool rb42, .slice rA42 rs42.length rc42] 28))
              obtain ⟨Wq42, hW42⟩ : ∃ W : World, W = (wq42.alloc (.cells #[.bool qb42, .slice qA42 qs42.length qc42] 28)).alloc (.cells #[.bool rb42, .slice rA42 rs42.length rc42] 28) := ⟨_, rfl⟩
              obtain ⟨rq42, hrq42⟩ : ∃ r : Nat, r = wq42.heap.size := ⟨_, rfl⟩
              obtain ⟨rr42, hrr42⟩ : ∃ r : Nat, r = wq42.heap.size + 1 := ⟨_, rfl⟩
              rw [← hW42] at hv42 hl42
              rw [← hrr42] at hv42
              rw [← hrq42] at hv42
              have HC42 := Lib.hid (And.intro hv42 hl42)
              have HW42 := Lib.hid hW42
              have HRq42 := Lib.hid hrq42
              have HRr42 := Lib.hid hrr42
              clear py0 py1 pz0 pz1
              clear hv42 hl42 hW42 hb42 hrq42 qg42 ql42 hrr42 rg42 rl42 HC41
              go_upto_region 18 with fail
              rw [← HW42.out]
              rw [← HRr42.out]
              rw [← HRq42.out]
              clear HW42 HRq42 HRr42
              obtain ⟨pg0, pg1⟩ : Two Wq42 rq25 (.bool qb25) (.slice qA25 qs25.length qc25) := (HC42.out.1 8 _ rfl).two rfl
              obtain ⟨pz0, pz1⟩ : Two Wq42 r10 (.bool zb) (.slice zA zz.length zc) := (HC42.out.1 11 _ rfl).two rfl
              go_wp2_with fail
              refine (hd.out.d6 _ _ _ ((HC42.out.1 8 _ rfl).at_) ((HC42.out.1 11 _ rfl).at_)).mono ?_
              rintro e wq43 ⟨qv43, rv43, rfl, ⟨qb43, qA43, qc43, qs43, rfl, qg43, ql43⟩, ⟨rb43, rA43, rc43, rs43, rfl, rg43, rl43⟩, hb43⟩
              have hv43 := (((((HC42.out.1.step hb43 rfl).told0 rg43 rl43).told0 qg43 ql43).laid 28).swap).laid 28
              rw [size_alloc] at hv43
              have hl43 : Below w.heap.size w ((wq43.alloc (.cells #[.bool qb43, .slice qA43 qs43.length qc43] 28)).alloc (.cells #[.bool rb43, .slice rA43 rs43.length rc43] 28)) := (((below_then HC42.out.2 hb43).alloc (Nat.le_trans HC42.out.2.size hb43.size) (.cells #[.bool qb43, .slice qA43 qs43.length qc43] 28)).alloc (Nat.le_trans (Nat.le_trans HC42.out.2.size hb43.size) (by simp)) (.cells #[.bool rb43, .slice rA43 rs43.length rc43] 28))
              obtain ⟨Wq43, hW43⟩ : ∃ W : World, W = (wq43.alloc (.cells #[.bool qb43, .slice qA43 qs43.length qc43] 28)).alloc (.cells #[.bool rb43, .slice rA43 rs43.length rc43] 28) := ⟨_, rfl⟩
              obtain ⟨rq43, hrq43⟩ : ∃ r : Nat, r = wq43.heap.size := ⟨_, rfl⟩
              obtain ⟨rr43, hrr43⟩ : ∃ r : Nat, r = wq43.heap.size + 1 := ⟨_, rfl⟩
              rw [← hW43] at hv43 hl43
              rw [← hrr43] at hv43
              rw [← hrq43] at hv43
              have HC43 := Lib.hid (And.intro hv43 hl43)
              have HW43 := Lib.hid hW43
              have HRq43 := Lib.hid hrq43
              have HRr43 := Lib.hid hrr43
              clear pg0 pg1 pz0 pz1
              clear hv43 hl43 hW43 hb43 hrq43 qg43 ql43 hrr43 rg43 rl43 HC42
              go_upto_region 19 with fail
              rw [← HW43.out]
              rw [← HRr43.out]
              rw [← HRq43.out]
              clear HW43 HRq43 HRr43
              obtain ⟨pv0, pv1⟩ : Two Wq43 rr42 (.bool rb42) (.slice rA42 rs42.length rc42) := (HC43.out.1 2 _ rfl).two rfl
              go_wp2_with fail
              refine (hd.out.sv _ _ ((HC43.out.1 2 _ rfl).at_)).mono ?_
              rintro e wq44 ⟨rfl, hb44⟩
              have HC44 := Lib.hid (And.intro (HC43.out.1.step hb44 rfl) (below_then HC43.out.2 hb44))
              clear pv0 pv1
              clear hb44 HC43
              by_cases hev : ev = 0
              · subst hev
                have het : et = 0 := by have h := HZ2.out; simpa using h
                subst het
                obtain ⟨pww0, pww1⟩ : Two wq44 rr43 (.bool rb43) (.slice rA43 rs43.length rc43) := (HC44.out.1 0 _ rfl).two rfl
                go_wp2_with fail
                refine (hd.out.st _ _ ((HC44.out.1 0 _ rfl).at_)).mono ?_
                rintro e wq45 ⟨rfl, hb45⟩
                have HC45 := Lib.hid (And.intro (HC44.out.1.step hb45 rfl) (below_then HC44.out.2 hb45))
                clear pww0 pww1
                clear hb45 HC44
                go_wp2_with fail
                refine (awake_any _).mono ?_
                rintro e wq46 ⟨rfl, hb46⟩
                have HC46 := Lib.hid (And.intro (HC45.out.1.step hb46 rfl) (below_then HC45.out.2 hb46))
                clear hb46 HC45
                go_wp2
                go_ret
                exact ⟨rfl, HC46.out.2⟩
              · have hev2 : (ev == 0) = false := by rw [beq_eq_false_iff_ne]; exact hev
                go_wp2_with fail
                refine (awake_any _).mono ?_
                rintro e wq47 ⟨rfl, hb47⟩
                have HC47 := Lib.hid (And.intro (HC44.out.1.step hb47 rfl) (below_then HC44.out.2 hb47))
                clear hb47 HC44
                go_wp2
                go_ret
                exact ⟨rfl, HC47.out.2⟩
            · have hu2 : (eu == 0) = false := by rw [beq_eq_false_iff_ne]; exact hu
              go_wp2_with fail
              refine (awake_any _).mono ?_
              rintro e wq48 ⟨rfl, hb48⟩
              have HC48 := Lib.hid (And.intro (HC41.out.1.step hb48 rfl) (below_then HC41.out.2 hb48))
              clear hb48 HC41
              go_wp2
              go_ret
              exact ⟨rfl, HC48.out.2⟩
end Go.Proofs.Ytagocllbfbbneaa.RK
