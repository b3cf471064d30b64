/- Shift, Field, Deposit of the program and of the reference have the same answers: for the law IntegerFields. -/
import Derived.Test.YtagocllbfbbneaaRDeposit
import Derived.Test.YtagocllbfbbneaaMixKit
namespace Go.Proofs.Ytagocllbfbbneaa.RK
open Go.RowKit
set_option linter.unusedSimpArgs false

structure ShiftB (x n a er : Int) : Prop where
  fit : FitD a 9000
  p : ∀ v w, IntAt w v x → Calls Try.prog 50 #[v, .int .i64 n] w fun e w' => IsIE w w' a er e
  q : ∀ v w, RefAt w v x → Calls Try.prog 55 #[v, .int .i64 n] w fun e w' => IsRE w w' a er e
structure FieldB (x k o a er : Int) : Prop where
  fit : FitD a 9000
  p : ∀ v w, IntAt w v x → Calls Try.prog 56 #[v, .int .i64 k, .int .i64 o] w fun e w' => IsIE w w' a er e
  q : ∀ v w, RefAt w v x → Calls Try.prog 57 #[v, .int .i64 k, .int .i64 o] w fun e w' => IsRE w w' a er e
structure DepB (x y k o a er : Int) : Prop where
  fit : FitD a 9000
  p : ∀ v v2 w, IntAt w v x → IntAt w v2 y → Calls Try.prog 58 #[v, v2, .int .i64 k, .int .i64 o] w fun e w' => IsIE w w' a er e
  q : ∀ v v2 w, RefAt w v x → RefAt w v2 y → Calls Try.prog 59 #[v, v2, .int .i64 k, .int .i64 o] w fun e w' => IsRE w w' a er e
theorem bd_b32F {a m : Nat} (h : a < B32 ^ m) : a < BD ^ (2 * m) := by
  rw [Nat.pow_mul]
  exact h
theorem fit_of_two {a : Int} {n M : Nat} (h : a.natAbs ≤ 2 ^ n) (hn : n < 16 * M) : FitD a M := by
  unfold FitD
  rw [show BD = 2 ^ 16 from rfl, ← Nat.pow_mul]
  exact Nat.lt_of_le_of_lt h (Nat.pow_lt_pow_right (by decide) hn)
theorem fit_zero (M : Nat) : FitD 0 M := by
  unfold FitD
  exact Nat.pow_pos BD_pos
theorem err_if {P : Prop} [Decidable P] {z k : Int} {w w' : World} {e : Ending} (h : IsRE w w' z k e) : IsRE w w' z k e := h

theorem shift_same (x n : Int) (hx : x.natAbs < B32 ^ 8) (h0 : -9223372036854775808 ≤ n) : ∃ a er, Hid (ShiftB x n a er) := by
  have hp : ∀ v w, IntAt w v x → Calls Try.prog 50 #[v, .int .i64 n] w fun e w' => IsIE w w' (shAns x n) (shErr x n) e := fun v w h => Shift_any v x n 8 w h hx (by decide) h0
  have hz : FitD x 16 := bd_b32F hx
  have hl2 : bl x.natAbs ≤ 256 := fit_bl hz
  have hl1 : bl (magOf x) ≤ 256 := Nat.le_trans (bl_up (mag_le x)) hl2
  by_cases hx0 : x = 0
  · subst hx0
    have e1 : shAns 0 n = 0 := by unfold shAns; rw [if_neg (fun h => h.2.1 rfl), sh_zero]
    have e2 : shErr 0 n = 0 := by unfold shErr; rw [if_neg (fun h => h.2.1 rfl)]
    rw [e1, e2] at hp
    exact ⟨0, 0, Lib.hid ⟨fit_zero _, hp, fun v w ⟨b, A, c, ds, hv, hs, hd⟩ => by subst hv; exact rshift_zero b A c ds 0 n rfl 16 w hs hd hz (by decide) (by decide)⟩⟩
  · by_cases hn : 0 ≤ n
    · by_cases hbig : 65536 < n
      · have e0 : shBig x n := ⟨by omega, hx0, by omega⟩
        have e1 : shAns x n = 0 := by unfold shAns; rw [if_pos e0]
        have e2 : shErr x n = 14 := by unfold shErr; rw [if_pos e0]
        rw [e1, e2] at hp
        exact ⟨0, 14, Lib.hid ⟨fit_zero _, hp, fun v w ⟨b, A, c, ds, hv, hs, hd⟩ => by subst hv; exact rshift_big b A c ds x n hx0 hbig 16 w hs hd hz (by decide) (by decide)⟩⟩
      · obtain ⟨k, rfl⟩ : ∃ k : Nat, n = (k : Int) := ⟨n.toNat, by omega⟩
        by_cases hlg : 65536 < bl (magOf x) + k
        · have e0 : shBig x (k : Int) := ⟨by omega, hx0, by omega⟩
          have e1 : shAns x (k : Int) = 0 := by unfold shAns; rw [if_pos e0]
          have e2 : shErr x (k : Int) = 14 := by unfold shErr; rw [if_pos e0]
          rw [e1, e2] at hp
          exact ⟨0, 14, Lib.hid ⟨fit_zero _, hp, fun v w ⟨b, A, c, ds, hv, hs, hd⟩ => by subst hv; exact rshift_large b A c ds x k _ hx0 (by omega) rfl (by omega) hlg 16 w hs hd hz (by decide) (by decide)⟩⟩
        · have e0 : ¬ shBig x (k : Int) := fun h => by have := h.2.2; omega
          have e1 : shAns x (k : Int) = x * ((2 ^ k : Nat) : Int) := by unfold shAns; rw [if_neg e0, sh_pos]
          have e2 : shErr x (k : Int) = 0 := by unfold shErr; rw [if_neg e0]
          rw [e1, e2] at hp
          obtain ⟨t, ht⟩ : ∃ t, (2 : Int) ^ k = t := ⟨_, rfl⟩
          have hfit : FitD (x * ((2 ^ k : Nat) : Int)) 9000 := by
            have h1 : x.natAbs ≤ 2 ^ 256 := Nat.le_of_lt (bl_le.1 hl2)
            have h2 := up_size (z := x) (a := 256) h1 k
            rw [sh_pos] at h2
            exact fit_of_two h2 (by omega)
          rw [two_cast, ht] at hp hfit
          exact ⟨_, 0, Lib.hid ⟨hfit, hp, fun v w ⟨b, A, c, ds, hv, hs, hd⟩ => by subst hv; exact rshift_up b A c ds x k _ hx0 (by omega) rfl (by omega) t _ ht rfl 16 w hs hd hz (by decide) (by decide)⟩⟩
    · obtain ⟨k, rfl⟩ : ∃ k : Nat, n = -(k : Int) := ⟨n.natAbs, by omega⟩
      have e0 : ¬ shBig x (-(k : Int)) := fun h => by have := h.1; omega
      have e1 : shAns x (-(k : Int)) = shZ x (-(k : Int)) := by unfold shAns; rw [if_neg e0]
      have e2 : shErr x (-(k : Int)) = 0 := by unfold shErr; rw [if_neg e0]
      rw [e1, e2] at hp
      by_cases hk : k ≤ bl x.natAbs
      · rw [sh_neg] at hp
        have hfit : FitD (x / ((2 ^ k : Nat) : Int)) 9000 := by
          have h1 : (x / ((2 ^ k : Nat) : Int)).natAbs ≤ x.natAbs := Int.natAbs_ediv_le_natAbs _ _
          exact FitD.up (m := 16) (Nat.lt_of_le_of_lt h1 hz) (by omega)
        obtain ⟨t, ht⟩ : ∃ t, (2 : Int) ^ k = t := ⟨_, rfl⟩
        rw [two_cast, ht] at hp hfit
        exact ⟨_, 0, Lib.hid ⟨hfit, hp, fun v w ⟨b, A, c, ds, hv, hs, hd⟩ => by subst hv; exact rshift_down b A c ds x k _ hx0 (by omega) rfl hk (by omega) t _ ht rfl 16 w hs hd hz (by decide) (by decide)⟩⟩
      · by_cases hneg : x < 0
        · rw [sh_far_neg hneg k (by omega)] at hp
          exact ⟨-1, 0, Lib.hid ⟨fit_smallF (by decide) (by omega), hp, fun v w ⟨b, A, c, ds, hv, hs, hd⟩ => by subst hv; exact rshift_farn b A c ds x (-(k : Int)) _ hx0 hneg rfl (by omega) (by omega) 16 w hs hd hz (by decide) (by decide)⟩⟩
        · rw [sh_far_pos hneg k (by omega)] at hp
          exact ⟨0, 0, Lib.hid ⟨fit_zero _, hp, fun v w ⟨b, A, c, ds, hv, hs, hd⟩ => by subst hv; exact rshift_farp b A c ds x (-(k : Int)) _ hx0 hneg rfl (by omega) (by omega) 16 w hs hd hz (by decide) (by decide)⟩⟩

theorem field_same (x k p : Int) (hx : x.natAbs < B32 ^ 8) : ∃ a er, Hid (FieldB x k p a er) := by
  have hp : ∀ v w, IntAt w v x → Calls Try.prog 56 #[v, .int .i64 k, .int .i64 p] w fun e w' => IsIE w w' (if okSize k ∧ okSize p then fieldZ x k.toNat p.toNat else 0) (if okSize k ∧ okSize p then 0 else 1) e := fun v w h => Field_any v x k p 8 w h hx (by decide)
  have hz : FitD x 16 := bd_b32F hx
  by_cases ho : okSize k ∧ okSize p
  · rw [if_pos ho, if_pos ho] at hp
    obtain ⟨⟨a0, a1⟩, b0, b1⟩ := ho
    obtain ⟨K, rfl⟩ := Int.eq_ofNat_of_zero_le a0
    obtain ⟨P, rfl⟩ := Int.eq_ofNat_of_zero_le b0
    simp only [Int.toNat_natCast] at hp
    exact ⟨_, 0, Lib.hid ⟨fit_of_two (Nat.le_of_lt (field_lt x K P)) (by omega), hp, fun v w h => rfield_in v x K P 16 w h hz (by decide) (by decide) (by omega) (by omega)⟩⟩
  · rw [if_neg ho, if_neg ho] at hp
    exact ⟨0, 1, Lib.hid ⟨fit_zero _, hp, fun v w h => rfield_out v x k p w h ho⟩⟩

theorem dep_same (x y k p : Int) (hx : x.natAbs < B32 ^ 8) (hy : y.natAbs < B32 ^ 8) : ∃ a er, Hid (DepB x y k p a er) := by
  have hp : ∀ v v2 w, IntAt w v x → IntAt w v2 y → Calls Try.prog 58 #[v, v2, .int .i64 k, .int .i64 p] w fun e w' => IsIE w w' (if okSize k ∧ okSize p then depZ x y k.toNat p.toNat else 0) (if okSize k ∧ okSize p then 0 else 1) e := fun v v2 w h h2 => Deposit_any v v2 x y k p 8 w h h2 hx hy (by decide)
  have hz : FitD x 16 := bd_b32F hx
  have hzy : FitD y 16 := bd_b32F hy
  by_cases ho : okSize k ∧ okSize p
  · rw [if_pos ho, if_pos ho] at hp
    obtain ⟨⟨a0, a1⟩, b0, b1⟩ := ho
    obtain ⟨K, rfl⟩ := Int.eq_ofNat_of_zero_le a0
    obtain ⟨P, rfl⟩ := Int.eq_ofNat_of_zero_le b0
    simp only [Int.toNat_natCast] at hp
    have hl1 : bl (magOf x) ≤ 131072 := Nat.le_trans (bl_up (mag_le x)) (Nat.le_trans (fit_bl hz) (by omega))
    exact ⟨_, 0, Lib.hid ⟨fit_of_two (dep_size x y K P 131072 hl1 (by omega)) (by omega), hp, fun v v2 w h h2 => rdeposit_in v v2 x y K P 16 w h h2 hz hzy (by decide) (by decide) (by omega) (by omega)⟩⟩
  · rw [if_neg ho, if_neg ho] at hp
    exact ⟨0, 1, Lib.hid ⟨fit_zero _, hp, fun v v2 w h h2 => rdeposit_out v v2 x y k p w h h2 ho⟩⟩
end Go.Proofs.Ytagocllbfbbneaa.RK
