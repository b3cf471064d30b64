/- The contracts of the calls of the law IntegerDivides, with what its numbers are to each other. -/
import Derived.Test.YtagocllbfbbneaaGcd
import Derived.Test.YtagocllbfbbneaaPowerNeg
import Derived.Test.YtagocllbfbbneaaDivsMath
namespace Go.Proofs.Ytagocllbfbbneaa.RK
open Go.RowKit
set_option linter.unusedSimpArgs false

structure DivB (x y z q r p ra ya g m1 n1 a b k za q4 u4 q5 v5 q6 t6 ey er ex e4 eu ev et : Int) : Prop where
  d1 : ∀ v v2 w, IntAt w v x → IntAt w v2 y → Calls Try.prog 30 #[v, v2] w fun e w' => IsDivE w w' q r 0 e
  d2 : ∀ v v2 w, IntAt w v x → IntAt w v2 g → Calls Try.prog 30 #[v, v2] w fun e w' => IsDivE w w' m1 0 0 e
  d3 : ∀ v v2 w, IntAt w v y → IntAt w v2 g → Calls Try.prog 30 #[v, v2] w fun e w' => IsDivE w w' n1 0 0 e
  d4 : ∀ v v2 w, IntAt w v x → IntAt w v2 z → Calls Try.prog 30 #[v, v2] w fun e w' => IsDivE w w' q4 u4 e4 e
  d5 : ∀ v v2 w, IntAt w v y → IntAt w v2 z → Calls Try.prog 30 #[v, v2] w fun e w' => IsDivE w w' q5 v5 e4 e
  d6 : ∀ v v2 w, IntAt w v g → IntAt w v2 z → Calls Try.prog 30 #[v, v2] w fun e w' => IsDivE w w' q6 t6 e4 e
  mq : ∀ v v2 w, IntAt w v y → IntAt w v2 q → Calls Try.prog 42 #[v, v2] w fun e w' => IsInt w w' p e
  ad : ∀ v v2 w, IntAt w v p → IntAt w v2 r → Calls Try.prog 38 #[v, v2] w fun e w' => IsInt w w' x e
  hg : ∀ v v2 w, IntAt w v x → IntAt w v2 y → Calls Try.prog 44 #[v, v2] w fun e w' => IsInt w w' g e
  xz : ∀ v v2 w, IntAt w v x → IntAt w v2 z → Calls Try.prog 42 #[v, v2] w fun e w' => IsInt w w' a e
  yz : ∀ v v2 w, IntAt w v y → IntAt w v2 z → Calls Try.prog 42 #[v, v2] w fun e w' => IsInt w w' b e
  gab : ∀ v v2 w, IntAt w v a → IntAt w v2 b → Calls Try.prog 44 #[v, v2] w fun e w' => IsInt w w' k e
  mg : ∀ v v2 w, IntAt w v g → IntAt w v2 za → Calls Try.prog 42 #[v, v2] w fun e w' => IsInt w w' k e
  ar : ∀ v w, IntAt w v r → Calls Try.prog 36 #[v] w fun e w' => IsInt w w' ra e
  ay : ∀ v w, IntAt w v y → Calls Try.prog 36 #[v] w fun e w' => IsInt w w' ya e
  az : ∀ v w, IntAt w v z → Calls Try.prog 36 #[v] w fun e w' => IsInt w w' za e
  sy : ∀ v w, IntAt w v y → Calls Try.prog 22 #[v] w fun e w' => IsNum w w' ey e
  sr : ∀ v w, IntAt w v r → Calls Try.prog 22 #[v] w fun e w' => IsNum w w' er e
  sx : ∀ v w, IntAt w v x → Calls Try.prog 22 #[v] w fun e w' => IsNum w w' ex e
  s0 : ∀ v w, IntAt w v 0 → Calls Try.prog 22 #[v] w fun e w' => IsNum w w' 0 e
  sg : ∀ v w, IntAt w v g → Calls Try.prog 22 #[v] w fun e w' => IsNum w w' 1 e
  su : ∀ v w, IntAt w v u4 → Calls Try.prog 22 #[v] w fun e w' => IsNum w w' eu e
  sv : ∀ v w, IntAt w v v5 → Calls Try.prog 22 #[v] w fun e w' => IsNum w w' ev e
  st : ∀ v w, IntAt w v t6 → Calls Try.prog 22 #[v] w fun e w' => IsNum w w' et e
  sm : ∀ v v2 w, IntAt w v x → IntAt w v2 x → Calls Try.prog 65 #[v, v2] w fun e w' => IsBool w w' true e
  sk : ∀ v v2 w, IntAt w v k → IntAt w v2 k → Calls Try.prog 65 #[v, v2] w fun e w' => IsBool w w' true e
  cm : ∀ v v2 w, IntAt w v ra → IntAt w v2 ya → Calls Try.prog 32 #[v, v2] w fun e w' => IsNum w w' (-1) e
/-- Of at most 40 limbs. -/
def F40 (x : Int) : Prop := x.natAbs < B32 ^ 40
theorem f40_up {x : Int} {m : Nat} (h : x.natAbs < B32 ^ m) (hm : m ≤ 40) : F40 x := Nat.lt_of_lt_of_le h (Nat.pow_le_pow_right B32_pos hm)
theorem f40_le {x y : Int} (h : x.natAbs ≤ y.natAbs) (hy : F40 y) : F40 x := Nat.lt_of_le_of_lt h hy
theorem f40_mul {x y : Int} {m k : Nat} (hx : x.natAbs < B32 ^ m) (hy : y.natAbs < B32 ^ k) (h : m + k ≤ 40) : F40 (x * y) := by
  refine f40_up (m := m + k) ?_ h
  rw [Int.natAbs_mul, Nat.pow_add]
  exact Nat.mul_lt_mul'' hx hy
theorem f40_gcd {x y : Int} {m : Nat} (hx : x.natAbs < B32 ^ m) (hy : y.natAbs < B32 ^ m) : ((Int.gcd x y : Nat) : Int).natAbs < B32 ^ m := by
  rw [Int.natAbs_natCast]
  rcases Nat.eq_zero_or_pos x.natAbs with e | e
  · unfold Int.gcd; rw [e, Nat.gcd_zero_left]; exact hy
  · exact Nat.lt_of_le_of_lt (Nat.gcd_le_left _ e) hx
theorem div_40 (x y : Int) (hx : F40 x) (hy : F40 y) (h0 : y ≠ 0) : ∀ v v2 w, IntAt w v x → IntAt w v2 y → Calls Try.prog 30 #[v, v2] w fun e w' => IsDivE w w' (x.tdiv y) (x.tmod y) 0 e := fun v v2 w h h2 => divide_some v v2 x y 40 w h h2 (by decide) hx hy h0
theorem div_40r (x y r : Int) (hx : F40 x) (hy : F40 y) (h0 : y ≠ 0) (hr : x.tmod y = r) : ∀ v v2 w, IntAt w v x → IntAt w v2 y → Calls Try.prog 30 #[v, v2] w fun e w' => IsDivE w w' (x.tdiv y) r 0 e := by
  subst hr
  exact div_40 x y hx hy h0
theorem mul_40 (x y z : Int) (hx : F40 x) (hy : F40 y) (hz : x * y = z) : ∀ v v2 w, IntAt w v x → IntAt w v2 y → Calls Try.prog 42 #[v, v2] w fun e w' => IsInt w w' z e := by
  subst hz
  exact fun v v2 w h h2 => Mul_any v v2 x y 40 40 w h h2 (by decide) hx (by decide) hy
theorem add_40 (x y z : Int) (hx : F40 x) (hy : F40 y) (hz : x + y = z) : ∀ v v2 w, IntAt w v x → IntAt w v2 y → Calls Try.prog 38 #[v, v2] w fun e w' => IsInt w w' z e := by
  subst hz
  exact fun v v2 w h h2 => Add_any v v2 x y 40 w h h2 (by decide) hx hy
theorem gcd_40 (x y z : Int) (hx : F40 x) (hy : F40 y) (hz : ((Int.gcd x y : Nat) : Int) = z) : ∀ v v2 w, IntAt w v x → IntAt w v2 y → Calls Try.prog 44 #[v, v2] w fun e w' => IsInt w w' z e := by
  subst hz
  exact fun v v2 w h h2 => Gcd_any v v2 x y 40 w h h2 (by decide) hx hy
theorem abs_40 (x : Int) (hx : F40 x) : ∀ v w, IntAt w v x → Calls Try.prog 36 #[v] w fun e w' => IsInt w w' (x.natAbs : Int) e := fun v w h => Abs_any v x 40 w h hx (by decide)
theorem sign_40 (x s : Int) (hx : F40 x) (hs : x.sign = s) : ∀ v w, IntAt w v x → Calls Try.prog 22 #[v] w fun e w' => IsNum w w' s e := by
  subst hs
  exact fun v w h => Sign_any v x 40 w h (by decide) hx
theorem same_40 (x : Int) (hx : F40 x) : ∀ v v2 w, IntAt w v x → IntAt w v2 x → Calls Try.prog 65 #[v, v2] w fun e w' => IsBool w w' true e := by
  intro v v2 w h h2
  obtain ⟨b1, A1, c1, z1, rfl, s1, d1⟩ := h
  obtain ⟨b2, A2, c2, z2, rfl, s2, d2⟩ := h2
  have := same_ints b1 b2 A1 c1 z1 A2 c2 z2 x x 40 w ⟨b1, A1, c1, z1, rfl, s1, d1⟩ ⟨b2, A2, c2, z2, rfl, s2, d2⟩ (by decide) hx hx
  rw [decide_eq_true (rfl : x = x)] at this
  exact this
theorem cmp_40 (x y s : Int) (hx : F40 x) (hy : F40 y) (hs : cmpZ x y = s) : ∀ v v2 w, IntAt w v x → IntAt w v2 y → Calls Try.prog 32 #[v, v2] w fun e w' => IsNum w w' s e := by
  subst hs
  exact fun v v2 w h h2 => Cmp_any v v2 x y 40 w h h2 (by decide) hx hy
theorem divs_facts (x y z : Int) (hx : x.natAbs < B32 ^ 8) (hy : y.natAbs < B32 ^ 8) (hz : z.natAbs < B32 ^ 8) (h0 : y ≠ 0) :
    ∃ q r p ra ya g m1 n1 a b k za q4 u4 q5 v5 q6 t6 ey er ex e4 eu ev et, Hid (DivB x y z q r p ra ya g m1 n1 a b k za q4 u4 q5 v5 q6 t6 ey er ex e4 eu ev et) ∧ ey ≠ 0 ∧ (er = 0 ∨ (er ≠ 0 ∧ er = ex)) ∧ (e4 = 6 ∨ (e4 = 0 ∧ (eu = 0 → ev = 0 → et = 0))) := by
  have fx : F40 x := f40_up hx (by decide)
  have fy : F40 y := f40_up hy (by decide)
  have fz : F40 z := f40_up hz (by decide)
  have lq : (x.tdiv y).natAbs < B32 ^ 8 := by rw [Int.natAbs_tdiv]; exact Nat.lt_of_le_of_lt (Nat.div_le_self _ _) hx
  have fq : F40 (x.tdiv y) := f40_up lq (by decide)
  have fr : F40 (x.tmod y) := f40_le (by rw [Int.natAbs_tmod]; exact Nat.mod_le _ _) fx
  have fp : F40 (y * x.tdiv y) := f40_mul hy lq (by decide)
  have lg := f40_gcd hx hy
  have fg : F40 ((Int.gcd x y : Nat) : Int) := f40_up lg (by decide)
  have hg := gcd_pos (x := x) h0
  have la : (x * z).natAbs < B32 ^ 16 := by rw [Int.natAbs_mul, show 16 = 8 + 8 from rfl, Nat.pow_add]; exact Nat.mul_lt_mul'' hx hz
  have lb : (y * z).natAbs < B32 ^ 16 := by rw [Int.natAbs_mul, show 16 = 8 + 8 from rfl, Nat.pow_add]; exact Nat.mul_lt_mul'' hy hz
  have fa : F40 (x * z) := f40_up la (by decide)
  have fb : F40 (y * z) := f40_up lb (by decide)
  have fk : F40 ((Int.gcd (x * z) (y * z) : Nat) : Int) := f40_up (f40_gcd la lb) (by decide)
  have fza : F40 (z.natAbs : Int) := by unfold F40; rw [Int.natAbs_natCast]; exact fz
  have fra : F40 ((x.tmod y).natAbs : Int) := by unfold F40; rw [Int.natAbs_natCast]; exact fr
  have fya : F40 (y.natAbs : Int) := by unfold F40; rw [Int.natAbs_natCast]; exact fy
  have f0 : F40 0 := Nat.pow_pos B32_pos
  have hy0 : y.sign ≠ 0 := fun h => h0 (Int.sign_eq_zero_iff_zero.mp h)
  have her : (x.tmod y).sign = 0 ∨ ((x.tmod y).sign ≠ 0 ∧ (x.tmod y).sign = x.sign) := by
    by_cases h : x.tmod y = 0
    · exact .inl (by rw [h]; rfl)
    · exact .inr ⟨fun h2 => h (Int.sign_eq_zero_iff_zero.mp h2), divs_sign h⟩
  by_cases hz0 : z = 0
  · have hdn : ∀ n : Int, ∀ v v2 w, IntAt w v n → IntAt w v2 z → Calls Try.prog 30 #[v, v2] w fun e w' => IsDivE w w' 0 0 6 e := by
      subst hz0
      exact fun n v v2 w h h2 => divide_none v v2 n w h h2
    refine ⟨x.tdiv y, x.tmod y, y * x.tdiv y, _, _, ((Int.gcd x y : Nat) : Int), _, _, x * z, y * z, ((Int.gcd (x * z) (y * z) : Nat) : Int), _, 0, 0, 0, 0, 0, 0, _, _, _, 6, 0, 0, 0, Lib.hid ⟨div_40 x y fx fy h0, div_40r x _ 0 fx fg (by omega) (gcd_rest_x x y), div_40r y _ 0 fy fg (by omega) (gcd_rest_y x y), hdn x, hdn y, hdn _,
      mul_40 y _ _ fy fq rfl, add_40 _ _ _ fp fr (divs_back x y), gcd_40 x y _ fx fy rfl, mul_40 x z _ fx fz rfl, mul_40 y z _ fy fz rfl, gcd_40 _ _ _ fa fb rfl, mul_40 _ _ _ fg fza (gcd_times x y z).symm,
      abs_40 _ fr, abs_40 _ fy, abs_40 _ fz, sign_40 _ _ fy rfl, sign_40 _ _ fr rfl, sign_40 _ _ fx rfl, sign_40 _ _ f0 rfl, sign_40 _ _ fg (Int.sign_eq_one_of_pos hg), sign_40 _ _ f0 rfl, sign_40 _ _ f0 rfl, sign_40 _ _ f0 rfl, same_40 _ fx, same_40 _ fk, cmp_40 _ _ _ fra fya (divs_less h0)⟩, hy0, her, .inl rfl⟩
  · have fu : F40 (x.tmod z) := f40_le (by rw [Int.natAbs_tmod]; exact Nat.mod_le _ _) fx
    have fv : F40 (y.tmod z) := f40_le (by rw [Int.natAbs_tmod]; exact Nat.mod_le _ _) fy
    have ft : F40 (((Int.gcd x y : Nat) : Int).tmod z) := f40_le (by rw [Int.natAbs_tmod]; exact Nat.mod_le _ _) fg
    refine ⟨x.tdiv y, x.tmod y, y * x.tdiv y, _, _, ((Int.gcd x y : Nat) : Int), _, _, x * z, y * z, ((Int.gcd (x * z) (y * z) : Nat) : Int), _, _, x.tmod z, _, y.tmod z, _, ((Int.gcd x y : Nat) : Int).tmod z, _, _, _, 0, _, _, _, Lib.hid ⟨div_40 x y fx fy h0, div_40r x _ 0 fx fg (by omega) (gcd_rest_x x y), div_40r y _ 0 fy fg (by omega) (gcd_rest_y x y), div_40 x z fx fz hz0, div_40 y z fy fz hz0, div_40 _ z fg fz hz0,
      mul_40 y _ _ fy fq rfl, add_40 _ _ _ fp fr (divs_back x y), gcd_40 x y _ fx fy rfl, mul_40 x z _ fx fz rfl, mul_40 y z _ fy fz rfl, gcd_40 _ _ _ fa fb rfl, mul_40 _ _ _ fg fza (gcd_times x y z).symm,
      abs_40 _ fr, abs_40 _ fy, abs_40 _ fz, sign_40 _ _ fy rfl, sign_40 _ _ fr rfl, sign_40 _ _ fx rfl, sign_40 _ _ f0 rfl, sign_40 _ _ fg (Int.sign_eq_one_of_pos hg), sign_40 _ _ fu rfl, sign_40 _ _ fv rfl, sign_40 _ _ ft rfl, same_40 _ fx, same_40 _ fk, cmp_40 _ _ _ fra fya (divs_less h0)⟩, hy0, her, .inr ⟨rfl, fun h1 h2 => ?_⟩⟩
    rw [gcd_common (Int.sign_eq_zero_iff_zero.mp h1) (Int.sign_eq_zero_iff_zero.mp h2)]
    rfl
end Go.Proofs.Ytagocllbfbbneaa.RK
