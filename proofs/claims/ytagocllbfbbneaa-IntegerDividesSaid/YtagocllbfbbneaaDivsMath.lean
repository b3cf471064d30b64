/- What the law IntegerDivides asks, as plain facts on numbers. -/
import Derived.Test.YtagocllbfbbneaaBaseB
namespace Go.Proofs.Ytagocllbfbbneaa
open Go.RowKit

/-- A quotient and a rest belong together. -/
theorem divs_back (x y : Int) : y * x.tdiv y + x.tmod y = x := Int.mul_tdiv_add_tmod x y
theorem divs_less {x y : Int} (hy : y ≠ 0) : cmpZ ((x.tmod y).natAbs : Int) (y.natAbs : Int) = -1 := by
  have h : (x.tmod y).natAbs < y.natAbs := by rw [Int.natAbs_tmod]; exact Nat.mod_lt _ (by omega)
  unfold cmpZ
  rw [if_pos (by omega)]
theorem divs_sign {x y : Int} (h : x.tmod y ≠ 0) : (x.tmod y).sign = x.sign := by
  rcases (show 0 < x ∨ x = 0 ∨ x < 0 by omega) with hx | hx | hx
  · have h1 : 0 ≤ x.tmod y := Int.tmod_nonneg _ (by omega)
    rw [Int.sign_eq_one_of_pos hx, Int.sign_eq_one_of_pos (by omega)]
  · subst hx; rw [Int.zero_tmod] at h; exact absurd rfl h
  · have h1 : 0 ≤ (-x).tmod y := Int.tmod_nonneg _ (by omega)
    rw [Int.neg_tmod] at h1
    rw [Int.sign_eq_neg_one_of_neg hx, Int.sign_eq_neg_one_of_neg (by omega)]
theorem gcd_pos {x y : Int} (hy : y ≠ 0) : 0 < ((Int.gcd x y : Nat) : Int) := by
  have := Int.gcd_pos_of_ne_zero_right x hy
  omega
theorem gcd_rest_x (x y : Int) : x.tmod ((Int.gcd x y : Nat) : Int) = 0 := Int.tmod_eq_zero_of_dvd (Int.gcd_dvd_left ..)
theorem gcd_rest_y (x y : Int) : y.tmod ((Int.gcd x y : Nat) : Int) = 0 := Int.tmod_eq_zero_of_dvd (Int.gcd_dvd_right ..)
theorem gcd_times (x y z : Int) : ((Int.gcd (x * z) (y * z) : Nat) : Int) = ((Int.gcd x y : Nat) : Int) * (z.natAbs : Int) := by
  rw [Int.gcd_mul_right, Int.natCast_mul]
theorem gcd_common {x y z : Int} (hx : x.tmod z = 0) (hy : y.tmod z = 0) : ((Int.gcd x y : Nat) : Int).tmod z = 0 :=
  Int.tmod_eq_zero_of_dvd (Int.dvd_coe_gcd (Int.dvd_of_tmod_eq_zero hx) (Int.dvd_of_tmod_eq_zero hy))
end Go.Proofs.Ytagocllbfbbneaa
