/- window: the 64 bits of a number from a place on. -/
import Derived.Test.YtagocllbfbbneaaShiftA
namespace Go.Proofs.Ytagocllbfbbneaa
open Go.RowKit
set_option linter.unusedSimpArgs false

theorem two_mod (x s k : Nat) (hk : s + k = 64) : x * 2 ^ k % 18446744073709551616 = x % 2 ^ s * 2 ^ k := by
  have e : 18446744073709551616 = 2 ^ s * 2 ^ k := by rw [← Nat.pow_add, hk]
  rw [e, Nat.mul_mod_mul_right]
theorem win_or (t x s k : Nat) (hs : s < 32) (hk : s + k = 64) (ht : t < 18446744073709551616) :
    bits .or .u64 (((t / 2 ^ s : Nat) : Nat) : Int) (((x * 2 ^ k % 18446744073709551616 : Nat)) : Int) = ((t / 2 ^ s + x % 2 ^ s * 2 ^ k : Nat) : Int) := by
  have e : 18446744073709551616 = 2 ^ k * 2 ^ s := by rw [← Nat.pow_add, Nat.add_comm, hk]
  have h1 : t / 2 ^ s < 2 ^ k := Nat.div_lt_of_lt_mul (by rw [Nat.mul_comm, ← e]; exact ht)
  have h2 : 2 ^ k ≤ 2 ^ 64 := Nat.pow_le_pow_right (by decide) (by omega)
  have h3 := Nat.mod_lt (x * 2 ^ k) (show 0 < 18446744073709551616 by decide)
  rw [u64_or_nat _ _ (by omega) h3, two_mod x s k hk]
  congr 1
  have := Nat.two_pow_add_eq_or_of_lt (i := k) (b := t / 2 ^ s) h1 (x % 2 ^ s)
  rw [Nat.or_comm, Nat.mul_comm (x % 2 ^ s), ← this]
  omega
theorem win_math {xs : List Nat} {n l s k : Nat} (ho : Lm.Ok B32 xs) (hn : n = 32 * l + s) (hk : s + k = 64) (hl : l ≤ xs.length) :
    Lm.val B32 xs / 2 ^ n % 18446744073709551616 = (Lm.val B32 ((xs.drop l).take 2) / 2 ^ s + Lm.val B32 (xs.drop (l + 2)) % 2 ^ s * 2 ^ k) := by
  have e64 : 18446744073709551616 = 2 ^ s * 2 ^ k := by rw [← Nat.pow_add, hk]
  have h0 := Lm.val_split B32 xs l hl
  have hlt := Lm.val_lt (ho.take l)
  rw [List.length_take, Nat.min_eq_left hl] at hlt
  have h1 : Lm.val B32 xs / 2 ^ n = Lm.val B32 (xs.drop l) / 2 ^ s := by
    rw [hn, Nat.pow_add, ← Nat.div_div_eq_div_mul, ← B32_pow, h0, Nat.add_mul_div_left _ _ (Nat.pow_pos B32_pos), Nat.div_eq_of_lt hlt, Nat.zero_add]
  have h2 : Lm.val B32 (xs.drop l) = Lm.val B32 ((xs.drop l).take 2) + 18446744073709551616 * Lm.val B32 (xs.drop (l + 2)) := by
    rcases Nat.lt_or_ge (xs.drop l).length 2 with g | g
    · rw [List.take_of_length_le (by omega), List.drop_of_length_le (l := xs) (i := l + 2) (by rw [List.length_drop] at g; omega)]
      simp [Lm.val]
    · have := Lm.val_split B32 (xs.drop l) 2 g
      rw [List.drop_drop] at this
      rw [this]
      rfl
  have ht := low_two ho l
  rw [h1, h2]
  generalize Lm.val B32 ((xs.drop l).take 2) = t at *
  generalize Lm.val B32 (xs.drop (l + 2)) = T at *
  have hsp := Nat.two_pow_pos s
  have h3 : (t + 18446744073709551616 * T) / 2 ^ s = t / 2 ^ s + 2 ^ k * T := by
    rw [e64, Nat.mul_assoc, Nat.add_mul_div_left _ _ hsp]
  have h4 : t / 2 ^ s < 2 ^ k := Nat.div_lt_of_lt_mul (by rw [← e64]; exact ht)
  have h5 : T = T % 2 ^ s + 2 ^ s * (T / 2 ^ s) := (Nat.mod_add_div _ _).symm
  have h6 : T % 2 ^ s < 2 ^ s := Nat.mod_lt _ hsp
  rw [h3]
  have h7 : t / 2 ^ s + 2 ^ k * T = (t / 2 ^ s + T % 2 ^ s * 2 ^ k) + 18446744073709551616 * (T / 2 ^ s) := by
    generalize T % 2 ^ s = r at *
    generalize T / 2 ^ s = q at *
    generalize t / 2 ^ s = u at *
    rw [h5, e64]
    grind
  rw [h7, Nat.add_mul_mod_self_left, Nat.mod_eq_of_lt]
  have h8 : (T % 2 ^ s + 1) * 2 ^ k ≤ 2 ^ s * 2 ^ k := Nat.mul_le_mul_right _ h6
  rw [Nat.succ_mul] at h8
  omega
theorem win_top {xs : List Nat} {l s : Nat} (hl : l + 2 < xs.length) (hs : s < 32) : Lm.val B32 (xs.drop (l + 2)) % 2 ^ s = xs.getD (l + 2) 0 % 2 ^ s := by
  rw [Lm.val_drop_pred B32 xs (l + 2) hl]
  have e : B32 = 2 ^ s * 2 ^ (32 - s) := by rw [← Nat.pow_add, show s + (32 - s) = 32 by omega]; rfl
  rw [e, Nat.mul_assoc, Nat.add_mul_mod_self_left]
theorem shl_wrap (x k : Nat) : IntKind.u64.wrap ((x : Int) * 2 ^ k) = ((x * 2 ^ k % 18446744073709551616 : Nat) : Int) := by
  have e : (x : Int) * 2 ^ k = ((x * 2 ^ k : Nat) : Int) := by norm_cast
  rw [e]
  generalize x * 2 ^ k = t at *
  rw [IntKind.wrap_u64]
  omega
theorem shr_nat (t s : Nat) : ((t : Int) / 2 ^ s) = ((t / 2 ^ s : Nat) : Int) := by
  have e : ((2 : Int) ^ s) = ((2 ^ s : Nat) : Int) := by norm_cast
  rw [e, ← Int.natCast_ediv]

set_option maxRecDepth 100000 in
set_option maxHeartbeats 2000000 in
theorem window_low (ad : Addr) (c : Nat) (xs : List Nat) (n : Nat) (w : World) (h : Nums w .u32 (some ad) xs) (ho : Lm.Ok B32 xs) (ht : Lm.Top xs) (hc : xs.length ≤ c) (hl : xs.length ≤ 900000) (hn : n ≤ 100000000) (h0 : n / 32 < xs.length) (h2 : xs.length ≤ n / 32 + 2) :
    Calls Try.prog 136 #[.slice (some ad) xs.length c, .int .i64 (n : Int)] w fun e w' => e = .returned (.int .u64 ((Lm.val B32 xs / 2 ^ n % 18446744073709551616 : Nat) : Int)) ∧ w = w' := by
  obtain ⟨l, hl0⟩ : ∃ l, n / 32 = l := ⟨_, rfl⟩
  obtain ⟨s, hs0⟩ : ∃ s, n % 32 = s := ⟨_, rfl⟩
  rw [hl0] at h0 h2
  have hq : (n : Int) / 32 = (l : Int) := by omega
  have hr : (n : Int) % 32 = (s : Int) := by omega
  have hs1 : s < 32 := by omega
  have hlt : ¬ (xs.length : Int) ≤ (l : Int) := by omega
  have hm := win_math (n := n) (l := l) (s := s) (k := 64 - s) ho (by omega) (by omega) (by omega)
  rw [List.drop_of_length_le (l := xs) (i := l + 2) h2, show Lm.val B32 [] = 0 from rfl, Nat.zero_mod, Nat.zero_mul, Nat.add_zero] at hm
  have hlo := low_part ad c l xs w h ho ht h0 hc
  obtain ⟨t, htt⟩ : ∃ t, Lm.val B32 ((xs.drop l).take 2) = t := ⟨_, rfl⟩
  have htl := low_two ho l
  rw [htt] at hlo htl hm
  rw [hm]
  obtain ⟨ad', e1, hadl, _⟩ := h (by omega)
  injection e1 with e1
  subst e1
  have HD := Lib.hid (And.intro hlo htl)
  have hno : ¬ (l : Int) + 2 < (xs.length : Int) := by omega
  clear hl0 hs0 hm htt htl hlo h ht ho h2
  go_enter Try.func136, Try.ntmps136
  go_wp2_with fail
  refine HD.out.1.mono ?_
  rintro e w' ⟨rfl, rfl⟩
  go_wp2
  go_ret
  exact ⟨congrArg Ending.returned (congrArg (Value.int IntKind.u64) (shr_nat t s)), rfl⟩

set_option maxRecDepth 100000 in
set_option maxHeartbeats 2000000 in
theorem window_top (ad : Addr) (c : Nat) (xs : List Nat) (n : Nat) (w : World) (h : Nums w .u32 (some ad) xs) (ho : Lm.Ok B32 xs) (ht : Lm.Top xs) (hc : xs.length ≤ c) (hl : xs.length ≤ 900000) (hn : n ≤ 100000000) (h2 : n / 32 + 2 < xs.length) :
    Calls Try.prog 136 #[.slice (some ad) xs.length c, .int .i64 (n : Int)] w fun e w' => e = .returned (.int .u64 ((Lm.val B32 xs / 2 ^ n % 18446744073709551616 : Nat) : Int)) ∧ w = w' := by
  obtain ⟨l, hl0⟩ : ∃ l, n / 32 = l := ⟨_, rfl⟩
  obtain ⟨s, hs0⟩ : ∃ s, n % 32 = s := ⟨_, rfl⟩
  rw [hl0] at h2
  have hq : (n : Int) / 32 = (l : Int) := by omega
  have hr : (n : Int) % 32 = (s : Int) := by omega
  have hs1 : s < 32 := by omega
  obtain ⟨k, hk⟩ : ∃ k, s + k = 64 := ⟨64 - s, by omega⟩
  have hk2 : (64 : Int) - (s : Int) = (k : Int) := by omega
  have hlt : ¬ (xs.length : Int) ≤ (l : Int) := by omega
  have hm := win_math (n := n) (l := l) (s := s) (k := k) ho (by omega) hk (by omega)
  rw [win_top h2 hs1] at hm
  have hlo := low_part ad c l xs w h ho ht (by omega) hc
  obtain ⟨t, htt⟩ : ∃ t, Lm.val B32 ((xs.drop l).take 2) = t := ⟨_, rfl⟩
  have htl := low_two ho l
  rw [htt] at hlo htl hm
  obtain ⟨ad', e1, hadl, hcell⟩ := h (by omega)
  injection e1 with e1
  subst e1
  have hcx := hcell (l + 2) h2
  have hxl := limb_lt ho (l + 2)
  obtain ⟨x, hxd⟩ : ∃ x, xs.getD (l + 2) 0 = x := ⟨_, rfl⟩
  obtain ⟨l2, hl2⟩ : ∃ l2, l + 2 = l2 := ⟨_, rfl⟩
  have hl3 : (l : Int) + 2 = (l2 : Int) := by omega
  have hl4 : (l2 : Int) < (xs.length : Int) := by omega
  rw [hxd] at hcx hxl hm
  rw [hl2] at hcx
  rw [hm]
  have hor := win_or t x s k hs1 hk htl
  rw [← shl_wrap, ← shr_nat] at hor
  have HD := Lib.hid (And.intro hlo (And.intro htl hor))
  clear hl0 hs0 hm htt htl hlo h ht ho h2 hcell hxd hor hk hl2
  go_enter Try.func136, Try.ntmps136
  go_wp2_with fail
  refine HD.out.1.mono ?_
  rintro e w' ⟨rfl, rfl⟩
  go_wp2
  go_ret
  exact ⟨congrArg Ending.returned (congrArg (Value.int IntKind.u64) HD.out.2.2), rfl⟩

set_option maxRecDepth 100000 in
theorem window_none (A : Option Addr) (c : Nat) (xs : List Nat) (n : Nat) (w : World) (ho : Lm.Ok B32 xs) (hn : n ≤ 100000000) (h0 : xs.length ≤ n / 32) :
    Calls Try.prog 136 #[.slice A xs.length c, .int .i64 (n : Int)] w fun e w' => e = .returned (.int .u64 ((Lm.val B32 xs / 2 ^ n % 18446744073709551616 : Nat) : Int)) ∧ w = w' := by
  rw [right_far ho h0, Nat.zero_mod, show ((0 : Nat) : Int) = 0 from rfl]
  have hle : (xs.length : Int) ≤ (n : Int) / 32 := by omega
  clear ho h0
  go_enter Try.func136, Try.ntmps136
  go_wp2
  go_ret
  exact ⟨rfl, rfl⟩
theorem window_any (A : Option Addr) (c m : Nat) (xs : List Nat) (n : Nat) (w : World) (h : Limbs w A c xs m) (hl : xs.length ≤ 900000) (hn : n ≤ 100000000) :
    Calls Try.prog 136 #[.slice A xs.length c, .int .i64 (n : Int)] w fun e w' => e = .returned (.int .u64 ((m / 2 ^ n % 18446744073709551616 : Nat) : Int)) ∧ w = w' := by
  obtain ⟨hc, hx, ho, ht, rfl⟩ := h
  rcases Nat.lt_or_ge (n / 32) xs.length with h0 | h0
  · obtain ⟨ad, rfl, _⟩ := id (hx (by omega))
    rcases Nat.lt_or_ge (n / 32 + 2) xs.length with h2 | h2
    · exact window_top ad c xs n w hx ho ht hc hl hn h2
    · exact window_low ad c xs n w hx ho ht hc hl hn h0 h2
  · exact window_none A c xs n w ho hn h0
end Go.Proofs.Ytagocllbfbbneaa
