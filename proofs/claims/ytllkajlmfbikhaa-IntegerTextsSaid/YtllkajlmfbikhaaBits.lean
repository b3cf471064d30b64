/- How many binary digits a number has, and how many of them are set; math/bits' Len32 and OnesCount32 of a limb. -/
import Derived.Test.YtllkajlmfbikhaaBaseA
import Derived.BigQuiet
import Derived.Deep.QuietTactic
import Derived.IntWalk
import Derived.Lib.Tables
import Derived.Lib.BitFns
import Derived.Laws.BitsAllLaws
namespace Go.Proofs.Ytllkajlmfbikhaa
open Go.RowKit

/-- The number of binary digits. -/
def bl (n : Nat) : Nat := if n = 0 then 0 else n.log2 + 1
theorem bl_zero : bl 0 = 0 := rfl
theorem bl_half {n : Nat} (h : n ≠ 0) : bl n = 1 + bl (n / 2) := by
  unfold bl
  rw [if_neg h]
  by_cases h2 : 2 ≤ n
  · rw [if_neg (by omega), Nat.log2_def, if_pos h2]
    omega
  · have : n = 1 := by omega
    subst this
    decide
theorem bl_le {n k : Nat} : bl n ≤ k ↔ n < 2 ^ k := by
  unfold bl
  by_cases h : n = 0
  · subst h
    simp [Nat.two_pow_pos]
  · rw [if_neg h, ← Nat.log2_lt h]
    omega
theorem lt_bl (n : Nat) : n < 2 ^ bl n := bl_le.mp (Nat.le_refl _)
theorem bl_pos {n : Nat} (h : n ≠ 0) : 0 < bl n := by unfold bl; rw [if_neg h]; omega
theorem bl_aux : ∀ (f x : Nat), x < 2 ^ f → Lib.bitLenAux f x = bl x
  | 0, x, h => by
    have : x = 0 := by simpa using h
    subst this
    rfl
  | f + 1, x, h => by
    unfold Lib.bitLenAux
    by_cases h0 : x = 0
    · subst h0
      rfl
    · rw [if_neg h0, bl_half h0, bl_aux f (x / 2) (by rw [Nat.pow_succ] at h; omega)]
theorem bl_len (x : Nat) (h : x < 4294967296) : Lib.bitLen x = bl x := bl_aux 64 x (by omega)
/-- The binary digits above a place. -/
theorem bl_shift (k d n : Nat) (hn : n < 2 ^ k) (hd : d ≠ 0) : bl (n + 2 ^ k * d) = k + bl d := by
  apply Nat.le_antisymm
  · rw [bl_le, Nat.pow_add]
    have := lt_bl d
    calc n + 2 ^ k * d < 2 ^ k + 2 ^ k * d := by omega
      _ = 2 ^ k * (d + 1) := by rw [Nat.mul_add]; omega
      _ ≤ 2 ^ k * 2 ^ bl d := Nat.mul_le_mul_left _ this
  · rcases Nat.lt_or_ge (bl (n + 2 ^ k * d)) (k + bl d) with h | h
    · exfalso
      obtain ⟨b, hb⟩ : ∃ b, bl d = b + 1 := ⟨bl d - 1, by have := bl_pos hd; omega⟩
      have h1 : bl (n + 2 ^ k * d) ≤ k + b := by omega
      rw [bl_le, Nat.pow_add] at h1
      have h2 : ¬ bl d ≤ b := by omega
      rw [bl_le] at h2
      have h3 : 2 ^ k * 2 ^ b ≤ 2 ^ k * d := Nat.mul_le_mul_left _ (by omega)
      omega
    · exact h

/-- How many of the lowest f binary digits are set. -/
theorem pop_succ (f x : Nat) : Lib.popAux (f + 1) x = x % 2 + Lib.popAux f (x / 2) := rfl
theorem pop_zero (f : Nat) : Lib.popAux f 0 = 0 := by
  induction f with
  | zero => rfl
  | succ f ih => unfold Lib.popAux; simpa using ih
theorem pop_add : ∀ (f g x : Nat), Lib.popAux (f + g) x = Lib.popAux f x + Lib.popAux g (x / 2 ^ f)
  | 0, g, x => by simp [Lib.popAux]
  | f + 1, g, x => by
    rw [show f + 1 + g = (f + g) + 1 by omega, pop_succ, pop_succ, pop_add f g (x / 2), Nat.div_div_eq_div_mul, Nat.pow_succ, Nat.mul_comm (2 ^ f) 2]
    omega
theorem pop_le : ∀ (f x : Nat), Lib.popAux f x ≤ f
  | 0, _ => Nat.le_refl _
  | f + 1, x => by
    unfold Lib.popAux
    have := pop_le f (x / 2)
    omega
theorem pop_low : ∀ (f x y : Nat), Lib.popAux f (x + 2 ^ f * y) = Lib.popAux f x
  | 0, x, y => rfl
  | f + 1, x, y => by
    unfold Lib.popAux
    have e1 : (x + 2 ^ (f + 1) * y) % 2 = x % 2 := by
      rw [Nat.pow_succ, Nat.mul_comm (2 ^ f) 2, Nat.mul_assoc]
      omega
    have e2 : (x + 2 ^ (f + 1) * y) / 2 = x / 2 + 2 ^ f * y := by
      rw [Nat.pow_succ, Nat.mul_comm (2 ^ f) 2, Nat.mul_assoc]
      omega
    rw [e1, e2, pop_low f]
/-- How many binary digits of n are set. -/
def ones (n : Nat) : Nat := Lib.popAux (bl n) n
theorem pop_ones {n k : Nat} (h : n < 2 ^ k) : Lib.popAux k n = ones n := by
  have h1 := bl_le.mpr h
  obtain ⟨g, rfl⟩ : ∃ g, k = bl n + g := ⟨k - bl n, by omega⟩
  rw [pop_add, Nat.div_eq_of_lt (lt_bl n), pop_zero]
  rfl
theorem ones_join (k a b : Nat) (ha : a < 2 ^ k) : ones (a + 2 ^ k * b) = ones a + ones b := by
  have hb : a + 2 ^ k * b < 2 ^ (k + bl b) := by
    rw [Nat.pow_add]
    have h1 : 2 ^ k * (b + 1) ≤ 2 ^ k * 2 ^ bl b := Nat.mul_le_mul_left _ (lt_bl b)
    rw [Nat.mul_add] at h1
    omega
  rw [← pop_ones hb, pop_add, pop_low, pop_ones ha, Nat.add_mul_div_left _ _ (Nat.two_pow_pos k), Nat.div_eq_of_lt ha, Nat.zero_add]
  rfl
theorem ones_le {n k : Nat} (h : n < 2 ^ k) : ones n ≤ k := by
  rw [← pop_ones h]
  exact pop_le k n

set_option maxHeartbeats 4000000 in
set_option maxRecDepth 100000 in
theorem len32_int (x : Int) (w : World) (h0 : 0 ≤ x) (h1 : x ≤ 4294967295) : Calls Try.prog 117 #[.int .u32 x] w fun e w' => e = .returned (.int .i64 (Lib.bitLen x.toNat : Int)) ∧ w = w' := by
  by_cases c1 : x < 65536
  · by_cases c2 : x < 256
    · have c3 : x ≤ 255 := by omega
      have t1 := Lib.len8_of x h0 c3
      have l0 : (0 : Int) ≤ (Lib.bitLen x.toNat : Int) := Int.natCast_nonneg _
      have l1 : (Lib.bitLen x.toNat : Int) ≤ 8 := by have := Lib.bitLen_le8' x h0 c3; omega
      go_enter Try.func117, Try.ntmps117
      go_wp2
      go_ret
      exact ⟨rfl, rfl⟩
    · have c3 : x / 256 ≤ 255 := by omega
      have c4 : 0 ≤ x / 256 := by omega
      have c5 : 256 ≤ x := by omega
      have t1 := Lib.len8_of (x / 256) c4 c3
      have l0 : (0 : Int) ≤ (Lib.bitLen (x / 256).toNat : Int) := Int.natCast_nonneg _
      have l1 : (Lib.bitLen (x / 256).toNat : Int) ≤ 8 := by have := Lib.bitLen_le8' (x / 256) c4 c3; omega
      have HS := Lib.hid (Lib.bitLen_shift8 x.toNat (by omega) (by omega))
      go_enter Try.func117, Try.ntmps117
      go_wp2
      go_ret
      rw [HS.out, show (x / 256).toNat = x.toNat / 256 by omega]
      exact ⟨rfl, rfl⟩
  · have c3 : 65536 ≤ x := by omega
    have c4 : 0 ≤ x / 65536 := by omega
    have c7 : x / 65536 ≤ 65535 := by omega
    by_cases c2 : x / 65536 < 256
    · have c5 : x / 65536 ≤ 255 := by omega
      have t1 := Lib.len8_of (x / 65536) c4 c5
      have l0 : (0 : Int) ≤ (Lib.bitLen (x / 65536).toNat : Int) := Int.natCast_nonneg _
      have l1 : (Lib.bitLen (x / 65536).toNat : Int) ≤ 8 := by have := Lib.bitLen_le8' (x / 65536) c4 c5; omega
      have HS := Lib.hid (Lib.bitLen_shift16 x.toNat (by omega) (by omega))
      go_enter Try.func117, Try.ntmps117
      go_wp2
      go_ret
      rw [HS.out, show (x / 65536).toNat = x.toNat / 65536 by omega]
      exact ⟨rfl, rfl⟩
    · have c5 : x / 65536 / 256 ≤ 255 := by omega
      have c6 : 0 ≤ x / 65536 / 256 := by omega
      have c8 : 256 ≤ x / 65536 := by omega
      have t1 := Lib.len8_of (x / 65536 / 256) c6 c5
      have l0 : (0 : Int) ≤ (Lib.bitLen (x / 65536 / 256).toNat : Int) := Int.natCast_nonneg _
      have l1 : (Lib.bitLen (x / 65536 / 256).toNat : Int) ≤ 8 := by have := Lib.bitLen_le8' (x / 65536 / 256) c6 c5; omega
      have HS := Lib.hid (Lib.bitLen_shift24 x.toNat (by omega) (by omega))
      go_enter Try.func117, Try.ntmps117
      go_wp2
      go_ret
      rw [HS.out, show (x / 65536 / 256).toNat = x.toNat / 16777216 by omega]
      exact ⟨rfl, rfl⟩

theorem len32_any (d : Nat) (w : World) (h : d < B32) : Calls Try.prog 117 #[.int .u32 (d : Int)] w fun e w' => e = .returned (.int .i64 (bl d : Int)) ∧ w = w' := by
  have := len32_int (d : Int) w (Int.natCast_nonneg d) (by unfold B32 at h; omega)
  rw [Int.toNat_natCast, bl_len d h] at this
  exact this

theorem and255 (x : Int) (h0 : 0 ≤ x) (h1 : x ≤ 4294967295) : bits .and .u32 x 255 = x % 256 := by
  rw [u32_and x 255 h0 (by omega) (by omega) (by omega)]
  have : x.toNat &&& (255 : Int).toNat = x.toNat % 256 := Nat.and_two_pow_sub_one_eq_mod x.toNat 8
  rw [this]
  omega
theorem pop8_of (b : Int) (h0 : 0 ≤ b) (h1 : b ≤ 255) : Lib.pop8 b = (ones b.toNat : Int) := by
  have e := Lib.pop8_eq ⟨b.toNat, by omega⟩
  rw [← pop_ones (n := b.toNat) (k := 64) (by omega)]
  simp only [Int.toNat_of_nonneg h0] at e
  exact e
theorem ones_bytes (x : Nat) : ones x = ones (x / 16777216) + ones (x / 65536 % 256) + ones (x / 256 % 256) + ones (x % 256) := by
  have e1 : x = x % 256 + 2 ^ 8 * (x / 256) := by omega
  have e2 : x / 256 = x / 256 % 256 + 2 ^ 8 * (x / 65536) := by omega
  have e3 : x / 65536 = x / 65536 % 256 + 2 ^ 8 * (x / 16777216) := by omega
  have h1 := ones_join 8 (x % 256) (x / 256) (by omega)
  have h2 := ones_join 8 (x / 256 % 256) (x / 65536) (by omega)
  have h3 := ones_join 8 (x / 65536 % 256) (x / 16777216) (by omega)
  rw [← e1] at h1
  rw [← e2] at h2
  rw [← e3] at h3
  omega

set_option maxRecDepth 100000 in
set_option maxHeartbeats 4000000 in
theorem ones32_int (x : Int) (w : World) (h0 : 0 ≤ x) (h1 : x ≤ 4294967295) : Calls Try.prog 80 #[.int .u32 x] w fun e w' => e = .returned (.int .i64 (ones x.toNat : Int)) ∧ ∃ n, w' = w.drewN n := by
  have g0 : (0 : Int) ≤ x / 16777216 := by omega
  have g1 : x / 16777216 ≤ 255 := by omega
  have g2 : (0 : Int) ≤ x / 65536 % 256 := by omega
  have g3 : x / 65536 % 256 ≤ 255 := by omega
  have g4 : (0 : Int) ≤ x / 256 % 256 := by omega
  have g5 : x / 256 % 256 ≤ 255 := by omega
  have g6 : (0 : Int) ≤ x % 256 := by omega
  have g7 : x % 256 ≤ 255 := by omega
  have e1 := and255 (x / 65536) (by omega) (by omega)
  have e2 := and255 (x / 256) (by omega) (by omega)
  have e3 := and255 x h0 h1
  go_enter Try.func80, Try.ntmps80
  go_wp2_with fail
  go_quiet (fail)
  go_wp2
  go_ret
  refine ⟨congrArg Ending.returned (congrArg (Value.int IntKind.i64) ?_), _, rfl⟩
  rw [pop8_of _ g0 g1, pop8_of _ g2 g3, pop8_of _ g4 g5, pop8_of _ g6 g7]
  have h := ones_bytes x.toNat
  rw [show (x / 16777216).toNat = x.toNat / 16777216 by omega, show (x / 65536 % 256).toNat = x.toNat / 65536 % 256 by omega, show (x / 256 % 256).toNat = x.toNat / 256 % 256 by omega, show (x % 256).toNat = x.toNat % 256 by omega]
  have a1 := ones_le (n := x.toNat / 16777216) (k := 8) (by omega)
  have a2 := ones_le (n := x.toNat / 65536 % 256) (k := 8) (by omega)
  have a3 := ones_le (n := x.toNat / 256 % 256) (k := 8) (by omega)
  have a4 := ones_le (n := x.toNat % 256) (k := 8) (by omega)
  omega

theorem ones32_any (d : Nat) (w : World) (h : d < B32) : Calls Try.prog 80 #[.int .u32 (d : Int)] w fun e w' => e = .returned (.int .i64 (ones d : Int)) ∧ ∃ n, w' = w.drewN n := by
  have := ones32_int (d : Int) w (Int.natCast_nonneg d) (by unfold B32 at h; omega)
  rw [Int.toNat_natCast] at this
  exact this
end Go.Proofs.Ytllkajlmfbikhaa
