/- Power and Root of the program and of the reference have the same answers: for the law IntegerPowers. -/
import Derived.Test.YtagocllbfbbneaaPowerNeg
import Derived.Test.YtagocllbfbbneaaPowerUnit
import Derived.Test.YtagocllbfbbneaaRPowerU
import Derived.Test.YtagocllbfbbneaaRRoot
namespace Go.Proofs.Ytagocllbfbbneaa.RK
open Go.RowKit
set_option linter.unusedSimpArgs false

theorem root_one {x r s : Nat} (h : IsRoot x r) (k : IsRoot x s) : r = s := by
  rcases Nat.lt_trichotomy r s with h1 | h1 | h1
  · have := Nat.mul_le_mul (show r + 1 ≤ s from h1) (show r + 1 ≤ s from h1)
    have := h.2; have := k.1; omega
  · exact h1
  · have := Nat.mul_le_mul (show s + 1 ≤ r from h1) (show s + 1 ≤ r from h1)
    have := k.2; have := h.1; omega
theorem root_there (x : Nat) : ∃ r, IsRoot x r := by
  induction x with
  | zero => exact ⟨0, by unfold IsRoot; omega⟩
  | succ x ih =>
    obtain ⟨r, h1, h2⟩ := ih
    by_cases h : x + 1 < (r + 1) * (r + 1)
    · exact ⟨r, by omega, h⟩
    · refine ⟨r + 1, by omega, ?_⟩
      have : (r + 1) * (r + 1) < (r + 1 + 1) * (r + 1 + 1) := Nat.mul_lt_mul'' (by omega) (by omega)
      omega
theorem sofar_root {z : Int} {r : Nat} (h : SoFar z r 0) : IsRoot z.natAbs r := by
  obtain ⟨h1, h2⟩ := h
  rw [Nat.pow_zero] at h2
  have e1 : (r : Int) * (r : Int) = ((r * r : Nat) : Int) := by simp
  have e2 : ((r + 1 : Nat) : Int) * ((r + 1 : Nat) : Int) = (((r + 1) * (r + 1) : Nat) : Int) := by simp
  rw [e1] at h1
  rw [e2] at h2
  exact ⟨by omega, by omega⟩

set_option maxRecDepth 100000 in
set_option maxHeartbeats 2000000 in
theorem RRoot_none (v : Value) (z : Int) (m : Nat) (w : World) (h : RefAt w v z) (h0 : z < 0) (hm : m ≤ 900000) (hz : FitD z m) : Calls Try.prog 49 #[v] w fun e w' => IsRE w w' 0 1 e := by
  obtain ⟨b, A, c, ds, rfl, hs, hd⟩ := h
  have hb0 := begun1_below w (.bool b) (.slice A ds.length c) 31
  have hT := begun1_x w (.bool b) (.slice A ds.length c) 31
  have hR := begun1_r w (.bool b) (.slice A ds.length c) 31
  have hsz := begun1_size w (.bool b) (.slice A ds.length c) 31
  obtain ⟨W, hW⟩ : ∃ W, begun1 w (.bool b) (.slice A ds.length c) 31 = W := ⟨_, rfl⟩
  rw [hW] at hb0 hT hR hsz
  unfold begun1 at hW
  obtain ⟨sg, hsg⟩ : ∃ s, z.sign = s := ⟨_, rfl⟩
  have hsn : sg < 0 := by rw [← hsg, Int.sign_eq_neg_one_of_neg h0]; decide
  have hsig := rsign_is (.agg #[.bool b, .slice A ds.length c]) z sg m W ⟨b, A, c, ds, rfl, hs, hd.below hb0⟩ hm hz hsg
  have H := Lib.hid (And.intro hb0 (And.intro hR (And.intro hW hsig)))
  have hs2 : w.heap.size + 2 ≤ W.heap.size := by omega
  obtain ⟨px0, px1⟩ := id hT
  clear hb0 hT hR hW hs hd hsz hsig hsg hz h0 hm
  go_enter Try.func49, Try.ntmps49
  go_upto_region 1 with fail
  rw [H.out.2.2.1]
  go_wp2_with fail
  refine H.out.2.2.2.mono ?_
  rintro e w1 ⟨rfl, hb1⟩
  have r1 := H.out.2.1.step hb1 rfl (by omega)
  have HP := Lib.hid (And.intro r1 (below_then H.out.1 hb1))
  obtain ⟨⟨hr0, hr1⟩, hf0, hf1⟩ := id r1
  clear px0 px1 hb1 hs2 r1
  go_wp2
  have q := HP.out.1.1.stored (.bool false) (.slice none 0 0)
  obtain ⟨s0, s1⟩ := id q
  refine bodyPost_ret (v := .tuple #[.agg #[.bool false, .slice none 0 0], .int .i64 1]) (by simp [results, Try.results49, go_sem, s0, s1]) rfl ?_
  exact refE_stored (zs := []) HP.out.1 (by simp [SignOf]) ⟨Nat.le_refl _, Nums.nil _ _ _, Lm.Ok.nil _, Lm.Top.nil, rfl⟩ HP.out.2 (by omega)

/-- Both answer the number a and the error er. -/
structure PowerB (x n a er : Int) : Prop where
  fit : FitD a 200
  p : ∀ v w, IntAt w v x → Calls Try.prog 46 #[v, .int .i64 n] w fun e w' => IsIE w w' a er e
  q : ∀ v w, RefAt w v x → Calls Try.prog 47 #[v, .int .i64 n] w fun e w' => IsRE w w' a er e
structure RootB (x a er : Int) : Prop where
  fit : FitD a 200
  p : ∀ v w, IntAt w v x → Calls Try.prog 48 #[v] w fun e w' => IsIE w w' a er e
  q : ∀ v w, RefAt w v x → Calls Try.prog 49 #[v] w fun e w' => IsRE w w' a er e
theorem fit_small {a : Int} {m : Nat} (h : a.natAbs ≤ 1) (hm : 0 < m) : FitD a m := by
  unfold FitD
  have : BD ^ 1 ≤ BD ^ m := Nat.pow_le_pow_right BD_pos hm
  rw [Nat.pow_one] at this
  exact Nat.lt_of_lt_of_le (show a.natAbs < BD by unfold BD; omega) this
theorem bd_b32 {a m : Nat} (h : a < B32 ^ m) : a < BD ^ (2 * m) := by
  rw [Nat.pow_mul]
  exact h
theorem b32_of_bd {a m : Nat} (h : a < BD ^ m) : a < B32 ^ m := Nat.lt_of_lt_of_le h (Nat.pow_le_pow_left (by decide) m)

theorem powers_unit (x n : Int) (hx : x.natAbs ≤ 1) (h0 : 0 ≤ n) (h1 : n ≤ 9223372036854775807) : ∃ a, PowerB x n a 0 := by
  obtain ⟨N, rfl⟩ : ∃ N : Nat, n = (N : Int) := ⟨n.toNat, by omega⟩
  have hz : x.natAbs < BD ^ 1 := by rw [Nat.pow_one]; unfold BD; omega
  have hzl : x.natAbs < B32 ^ 1 := by rw [Nat.pow_one]; unfold B32; omega
  have hp : ∀ v w, IntAt w v x → Calls Try.prog 46 #[v, .int .i64 (N : Int)] w fun e w' => IsIE w w' (x ^ N) 0 e := fun v w h => by
    obtain ⟨b, A, c, zs, rfl, hs, hl⟩ := h
    exact power_unit_all b A c zs x N w hs hl (Nat.le_trans (hl.len hzl) (by decide)) hx (by omega)
  have hfit : FitD (x ^ N) 200 := fit_small (by rw [Int.natAbs_pow]; exact Nat.le_trans (Nat.pow_le_pow_left hx N) (by rw [Nat.one_pow]; exact Nat.le_refl _)) (by decide)
  refine ⟨_, hfit, hp, fun v w h => ?_⟩
  rcases Nat.eq_zero_or_pos N with rfl | hpos
  · rw [Int.pow_zero]
    exact rpower_u1 v x 1 w h hx (by decide) hz
  · rcases (show x = 1 ∨ x = 0 ∨ x = -1 by omega) with rfl | rfl | rfl
    · rw [Int.one_pow]
      exact rpower_u2 v 1 1 N 1 w h hx (by decide) hz hpos (by omega) rfl (by decide)
    · rw [Int.zero_pow (by omega)]
      exact rpower_u5 v 0 0 N 1 w h hx (by decide) hz hpos (by omega) rfl rfl
    · rcases Nat.mod_two_eq_zero_or_one N with ho | ho
      · have e : (-1 : Int) ^ N = 1 := by
          obtain ⟨k, rfl⟩ : ∃ k, N = 2 * k := ⟨N / 2, by omega⟩
          rw [Int.pow_mul, show (-1 : Int) ^ 2 = 1 from rfl, Int.one_pow]
        rw [e]
        exact rpower_u3 v (-1) (-1) N 1 w h hx (by decide) hz hpos (by omega) rfl (by decide) ho
      · have e : (-1 : Int) ^ N = -1 := by
          obtain ⟨k, rfl⟩ : ∃ k, N = 2 * k + 1 := ⟨N / 2, by omega⟩
          rw [Int.pow_succ, Int.pow_mul, show (-1 : Int) ^ 2 = 1 from rfl, Int.one_pow]; rfl
        rw [e]
        exact rpower_u4 v (-1) (-1) N 1 w h hx (by decide) hz hpos (by omega) rfl (by decide) ho

theorem powers_same (x n : Int) (hx : x.natAbs < B32 ^ 2) (h0 : -9223372036854775808 ≤ n) (h1 : n ≤ 9223372036854775807) (h : n ≤ 40 ∨ x.natAbs ≤ 1) : ∃ a er, Hid (PowerB x n a er) := by
  by_cases hn : n < 0
  · exact ⟨0, 1, Lib.hid ⟨fit_small (by decide) (by decide), fun v w k => power_neg v x n w k hn, fun v w k => rpower_neg v x n w k hn⟩⟩
  · by_cases h2 : x.natAbs ≤ 1
    · obtain ⟨a, ha⟩ := powers_unit x n h2 (by omega) h1
      exact ⟨a, 0, Lib.hid ha⟩
    · obtain ⟨N, rfl⟩ : ∃ N : Nat, n = (N : Int) := ⟨n.toNat, by omega⟩
      have hN : N ≤ 40 := by omega
      have hb : bl x.natAbs ≤ 64 := bl_le.2 (by rw [B32_pow] at hx; exact hx)
      have hm : N * bl x.natAbs ≤ 40 * 64 := Nat.mul_le_mul hN hb
      obtain ⟨E, hE1, hE2⟩ : ∃ E, 2560 ≤ E ∧ E ≤ 3200 := ⟨2560, Nat.le_refl _, by decide⟩
      have hlt : (x ^ N).natAbs < 2 ^ E := by
        rw [Int.natAbs_pow]
        exact pow_lt_two (b := 64) (by rw [B32_pow] at hx; exact hx) (by omega) (by omega)
      have hfit : FitD (x ^ N) 200 := by
        obtain ⟨M, hM⟩ : ∃ M, M = 200 := ⟨_, rfl⟩
        rw [← hM]
        unfold FitD
        rw [show BD = 2 ^ 16 from rfl, ← Nat.pow_mul]
        exact Nat.lt_of_lt_of_le hlt (Nat.pow_le_pow_right (by decide) (by omega))
      have hmag : bl (magOf (x ^ N)) ≤ 65536 := by
        have h3 : magOf (x ^ N) ≤ (x ^ N).natAbs := by unfold magOf; split <;> omega
        exact Nat.le_trans (bl_up h3) (Nat.le_trans (bl_le.2 hlt) (by omega))
      exact ⟨x ^ N, 0, Lib.hid ⟨hfit, fun v w k => Power_low v x N 2 w k (by decide) hx (by omega) (by omega),
        fun v w k => rpower_main v x (x ^ N) 0 N 4 4097 w k (by omega) (by decide) (bd_b32 hx) (by omega) (by decide) (by decide) ⟨fun _ => ⟨rfl, rfl⟩, fun h => absurd hmag (by omega)⟩⟩⟩

theorem roots_same (x : Int) (hx : x.natAbs < B32 ^ 8) : ∃ a er, Hid (RootB x a er) := by
  by_cases h0 : x < 0
  · exact ⟨0, 1, Lib.hid ⟨fit_small (by decide) (by decide), fun v w k => Root_none v x w k h0, fun v w k => RRoot_none v x 16 w k h0 (by decide) (bd_b32 hx)⟩⟩
  · obtain ⟨r, hr⟩ := root_there x.natAbs
    have hle : r ≤ x.natAbs := by
      rcases Nat.eq_zero_or_pos r with e | e
      · omega
      · exact Nat.le_trans (Nat.le_mul_of_pos_left r e) hr.1
    have hfit : FitD (r : Int) 200 := by
      unfold FitD
      rw [Int.natAbs_natCast]
      exact Nat.lt_of_le_of_lt hle (Nat.lt_of_lt_of_le (bd_b32 hx) (Nat.pow_le_pow_right BD_pos (by decide)))
    refine ⟨(r : Int), 0, Lib.hid ⟨hfit, fun v w k => (Root_some v x 8 w k hx (by decide) (by omega)).mono fun e w' ⟨s, hs, hi⟩ => ?_, fun v w k => (RRoot_some v x 16 w k (by omega) (by decide) (by decide) (bd_b32 hx)).mono fun e w' ⟨s, hs, hi⟩ => ?_⟩⟩
    · rw [root_one hr hs]; exact hi
    · rw [root_one hr (sofar_root hs)]; exact hi
end Go.Proofs.Ytagocllbfbbneaa.RK
