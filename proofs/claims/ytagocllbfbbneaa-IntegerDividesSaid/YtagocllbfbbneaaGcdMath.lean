/- Lehmer's way, as plain facts on numbers: the factors of several steps of Euclid, and what they tell of the whole numbers. -/
import Derived.Test.YtagocllbfbbneaaBaseA
namespace Go.Proofs.Ytagocllbfbbneaa.Gcd

/-- The steps so far: m, n are two neighbours in Euclid's sequence of m0, n0; p is the one ahead of m. -/
structure Look (m0 n0 m n a0 a1 a2 b0 b1 b2 : Nat) (odd : Bool) : Prop where
  rel : if odd then m + b1 * n0 = a1 * m0 ∧ n + a2 * m0 = b2 * n0 ∧ b2 * a1 = a2 * b1 + 1 else m + a1 * m0 = b1 * n0 ∧ n + b2 * n0 = a2 * m0 ∧ a2 * b1 = b2 * a1 + 1
  le : n ≤ m
  b2p : 1 ≤ b2
  b12 : b1 ≤ b2
  ab2 : a2 ≤ b2
  ab1 : a1 ≤ b1 ∨ (b1 = 0 ∧ a2 = 0 ∧ b2 = 1 ∧ a1 = 1)
  a2p : b1 ≠ 0 → 1 ≤ a2
  prev : b0 ≠ 0 → ∃ p, (if odd then p + a0 * m0 = b0 * n0 ∧ b0 * a1 = a0 * b1 + 1 else p + b0 * n0 = a0 * m0 ∧ a0 * b1 = b0 * a1 + 1) ∧ b1 ≤ m ∧ m + b0 + b1 ≤ p ∧ a1 ≤ b1 ∧ a0 ≤ b0 ∧ b0 ≤ b1 ∧ 1 ≤ a1
theorem look_start (m0 n0 : Nat) (h : n0 ≤ m0) : Look m0 n0 m0 n0 0 1 0 0 0 1 true :=
  ⟨by simp, h, by decide, by decide, by decide, .inr ⟨rfl, rfl, rfl, rfl⟩, fun h => absurd rfl h, fun h => absurd rfl h⟩
section
variable {m0 n0 m n a0 a1 a2 b0 b1 b2 : Nat} {odd : Bool}
theorem Look.whole (h : Look m0 n0 m n a0 a1 a2 b0 b1 b2 odd) : b2 * m + b1 * n = m0 := by
  have hr := h.rel
  cases odd
  · simp only [Bool.false_eq_true, if_false] at hr
    obtain ⟨h1, h2, h3⟩ := hr
    grind
  · simp only [if_true] at hr
    obtain ⟨h1, h2, h3⟩ := hr
    grind
/-- The sum of the loop's condition. -/
theorem Look.sum_le (h : Look m0 n0 m n a0 a1 a2 b0 b1 b2 odd) (hn : b2 ≤ n) : b1 + b2 ≤ m0 := by
  have hw := h.whole
  have h1 := h.b2p
  have h2 := h.le
  have k1 : b2 * 1 ≤ b2 * m := Nat.mul_le_mul_left _ (by omega)
  have k2 : b1 * 1 ≤ b1 * n := Nat.mul_le_mul_left _ (by omega)
  omega
theorem Look.step (h : Look m0 n0 m n a0 a1 a2 b0 b1 b2 odd) (hn : b2 ≤ n) (hm : n + b1 + b2 ≤ m) : Look m0 n0 n (m % n) a1 a2 (a1 + m / n * a2) b1 b2 (b1 + m / n * b2) (!odd) := by
  have hnp : 0 < n := Nat.lt_of_lt_of_le h.b2p hn
  have hdm := Nat.div_add_mod m n
  have hlt := Nat.mod_lt m hnp
  have hq : 1 ≤ m / n := (Nat.one_le_div_iff hnp).2 h.le
  obtain ⟨q, hqe⟩ : ∃ q, m / n = q := ⟨_, rfl⟩
  obtain ⟨r, hre⟩ : ∃ r, m % n = r := ⟨_, rfl⟩
  rw [hqe] at hdm hq ⊢
  rw [hre] at hdm hlt ⊢
  have hr := h.rel
  have k1 : 1 * b2 ≤ q * b2 := Nat.mul_le_mul_right _ hq
  have k2 : 1 * a2 ≤ q * a2 := Nat.mul_le_mul_right _ hq
  have k3 : q * a2 ≤ q * b2 := Nat.mul_le_mul_left _ h.ab2
  have hb2 := h.b2p
  have hb12 := h.b12
  have ha2 : a2 ≤ b2 := h.ab2
  have ha12 : 1 ≤ a1 + a2 := by
    cases odd
    · simp only [Bool.false_eq_true, if_false] at hr
      rcases Nat.eq_zero_or_pos a2 with e | e
      · have := hr.2.2; rw [e, Nat.zero_mul] at this; omega
      · omega
    · simp only [if_true] at hr
      rcases Nat.eq_zero_or_pos a1 with e | e
      · have := hr.2.2; rw [e, Nat.mul_zero] at this; omega
      · omega
  refine ⟨?_, by omega, by omega, by omega, ?_, .inl ha2, fun _ => by omega, fun hb => ⟨m, ?_, hn, by omega, ha2, ?_, hb12, h.a2p hb⟩⟩
  · cases odd
    · simp only [Bool.false_eq_true, if_false] at hr
      obtain ⟨h1, h2, h3⟩ := hr
      simp only [Bool.not_false, if_true]
      exact ⟨h2, by grind, by grind⟩
    · simp only [if_true] at hr
      obtain ⟨h1, h2, h3⟩ := hr
      simp only [Bool.not_true, Bool.false_eq_true, if_false]
      exact ⟨h2, by grind, by grind⟩
  · rcases h.ab1 with e | ⟨e1, e2, e3, e4⟩
    · omega
    · subst e1 e2 e3 e4; omega
  · cases odd
    · simp only [Bool.false_eq_true, if_false] at hr
      obtain ⟨h1, h2, h3⟩ := hr
      simp only [Bool.not_false, if_true]
      exact ⟨h1, by grind⟩
    · simp only [if_true] at hr
      obtain ⟨h1, h2, h3⟩ := hr
      simp only [Bool.not_true, Bool.false_eq_true, if_false]
      exact ⟨h1, by grind⟩
  · rcases h.ab1 with e | ⟨e1, _⟩
    · exact e
    · exact absurd e1 hb
/-- The next factors are not greater than m0. -/
theorem Look.next_le (h : Look m0 n0 m n a0 a1 a2 b0 b1 b2 odd) (hn : b2 ≤ n) (hm : n + b1 + b2 ≤ m) : b1 + m / n * b2 ≤ m0 ∧ a1 + m / n * a2 ≤ m0 := by
  have hs := h.step hn hm
  have hw := hs.whole
  have hnp : 0 < n := Nat.lt_of_lt_of_le h.b2p hn
  have k1 : (b1 + m / n * b2) * 1 ≤ (b1 + m / n * b2) * n := Nat.mul_le_mul_left _ hnp
  have := hs.ab2
  omega
/-- What the factors tell of the whole numbers. -/
structure Good (A B a0 b0 a1 b1 : Nat) (odd : Bool) (X Y : Nat) : Prop where
  rel : if odd then X + a0 * A = b0 * B ∧ Y + b1 * B = a1 * A else X + b0 * B = a0 * A ∧ Y + a1 * A = b1 * B
  le : Y ≤ X
  leB : X ≤ B
  less : X + Y < A + B
  same : Nat.gcd X Y = Nat.gcd A B
  small : a0 < 4294967296 ∧ b0 < 4294967296 ∧ a1 < 4294967296 ∧ b1 < 4294967296
theorem Look.good (h : Look m0 n0 m n a0 a1 a2 b0 b1 b2 odd) (hb : b0 ≠ 0) {A B t al be : Nat} (hA : A = m0 * t + al) (hB : B = n0 * t + be) (hal : al < t) (hbe : be < t) (hA0 : 0 < A) (hm0 : m0 < 18446744073709551616) :
    ∃ X Y, Good A B a0 b0 a1 b1 odd X Y := by
  obtain ⟨p, hp, c1, c2, c3, c4, c5, c6⟩ := h.prev hb
  have hr := h.rel
  have hw : b1 * p + b0 * m = m0 := by
    cases odd
    · simp only [Bool.false_eq_true, if_false] at hr hp
      obtain ⟨h1, h2, h3⟩ := hr
      obtain ⟨h4, h5⟩ := hp
      grind
    · simp only [if_true] at hr hp
      obtain ⟨h1, h2, h3⟩ := hr
      obtain ⟨h4, h5⟩ := hp
      grind
  have hb1 : b1 < 4294967296 := by
    rcases Nat.lt_or_ge b1 4294967296 with hlt | hge
    · exact hlt
    · have k1 : 4294967296 * 4294967296 ≤ b1 * p := Nat.mul_le_mul hge (by omega)
      omega
  have ht : 0 < t := by omega
  -- in integers
  have key : ∃ X Y : Nat, (if odd then X + a0 * A = b0 * B ∧ Y + b1 * B = a1 * A else X + b0 * B = a0 * A ∧ Y + a1 * A = b1 * B) ∧ Y ≤ X := by
    have e1 : a0 * al ≤ a0 * t := Nat.mul_le_mul_left _ (by omega)
    have e2 : b0 * be ≤ b0 * t := Nat.mul_le_mul_left _ (by omega)
    have e3 : a1 * al ≤ a1 * t := Nat.mul_le_mul_left _ (by omega)
    have e4 : b1 * be ≤ b1 * t := Nat.mul_le_mul_left _ (by omega)
    have f1 : a0 * t ≤ b0 * t := Nat.mul_le_mul_right _ c4
    have f2 : a1 * t ≤ b1 * t := Nat.mul_le_mul_right _ c3
    have f3 : b1 * t ≤ m * t := Nat.mul_le_mul_right _ c1
    have f4 : (m + b0 + b1) * t ≤ p * t := Nat.mul_le_mul_right _ c2
    rw [Nat.add_mul, Nat.add_mul] at f4
    cases odd
    · simp only [Bool.false_eq_true, if_false] at hr hp ⊢
      obtain ⟨h1, h2, h3⟩ := hr
      obtain ⟨h4, h5⟩ := hp
      have g1 : a0 * A = b0 * B + (p * t + a0 * al) - b0 * be := by
        have : a0 * A + b0 * be = b0 * B + (p * t + a0 * al) := by subst hA hB; grind
        omega
      have g2 : b1 * B = a1 * A + (m * t + b1 * be) - a1 * al := by
        have : b1 * B + a1 * al = a1 * A + (m * t + b1 * be) := by subst hA hB; grind
        omega
      exact ⟨p * t + a0 * al - b0 * be, m * t + b1 * be - a1 * al, ⟨by omega, by omega⟩, by omega⟩
    · simp only [if_true] at hr hp ⊢
      obtain ⟨h1, h2, h3⟩ := hr
      obtain ⟨h4, h5⟩ := hp
      have g1 : b0 * B = a0 * A + (p * t + b0 * be) - a0 * al := by
        have : b0 * B + a0 * al = a0 * A + (p * t + b0 * be) := by subst hA hB; grind
        omega
      have g2 : a1 * A = b1 * B + (m * t + a1 * al) - b1 * be := by
        have : a1 * A + b1 * be = b1 * B + (m * t + a1 * al) := by subst hA hB; grind
        omega
      exact ⟨p * t + b0 * be - a0 * al, m * t + a1 * al - b1 * be, ⟨by omega, by omega⟩, by omega⟩
  obtain ⟨X, Y, hXY, hle⟩ := key
  have back : A = b1 * X + b0 * Y ∧ B = a1 * X + a0 * Y := by
    cases odd
    · simp only [Bool.false_eq_true, if_false] at hp hXY
      obtain ⟨h4, h5⟩ := hp
      obtain ⟨h6, h7⟩ := hXY
      exact ⟨by grind, by grind⟩
    · simp only [if_true] at hp hXY
      obtain ⟨h4, h5⟩ := hp
      obtain ⟨h6, h7⟩ := hXY
      exact ⟨by grind, by grind⟩
  have hX1 : X ≤ B := by
    have : 1 * X ≤ a1 * X := Nat.mul_le_mul_right _ c6
    have := back.2
    omega
  have hXA : X + Y ≤ A := by
    have k1 : 1 * X ≤ b1 * X := Nat.mul_le_mul_right _ (by omega)
    have k2 : 1 * Y ≤ b0 * Y := Nat.mul_le_mul_right _ (by omega)
    have := back.1
    omega
  have hX0 : 0 < X := by
    rcases Nat.eq_zero_or_pos X with e | e
    · have e2 : Y = 0 := by omega
      have := back.1
      rw [e, e2] at this
      simp at this
      omega
    · exact e
  have hsame : Nat.gcd X Y = Nat.gcd A B := by
    apply Nat.dvd_antisymm
    · apply Nat.dvd_gcd
      · rw [back.1]; exact Nat.dvd_add (Nat.dvd_trans (Nat.gcd_dvd_left X Y) (Nat.dvd_mul_left ..)) (Nat.dvd_trans (Nat.gcd_dvd_right X Y) (Nat.dvd_mul_left ..))
      · rw [back.2]; exact Nat.dvd_add (Nat.dvd_trans (Nat.gcd_dvd_left X Y) (Nat.dvd_mul_left ..)) (Nat.dvd_trans (Nat.gcd_dvd_right X Y) (Nat.dvd_mul_left ..))
    · have dA := Nat.gcd_dvd_left A B
      have dB := Nat.gcd_dvd_right A B
      cases odd
      · simp only [Bool.false_eq_true, if_false] at hXY
        apply Nat.dvd_gcd
        · exact (Nat.dvd_add_left (Nat.dvd_trans dB (Nat.dvd_mul_left B b0))).1 (by rw [hXY.1]; exact Nat.dvd_trans dA (Nat.dvd_mul_left ..))
        · exact (Nat.dvd_add_left (Nat.dvd_trans dA (Nat.dvd_mul_left A a1))).1 (by rw [hXY.2]; exact Nat.dvd_trans dB (Nat.dvd_mul_left ..))
      · simp only [if_true] at hXY
        apply Nat.dvd_gcd
        · exact (Nat.dvd_add_left (Nat.dvd_trans dA (Nat.dvd_mul_left A a0))).1 (by rw [hXY.1]; exact Nat.dvd_trans dB (Nat.dvd_mul_left ..))
        · exact (Nat.dvd_add_left (Nat.dvd_trans dB (Nat.dvd_mul_left B b1))).1 (by rw [hXY.2]; exact Nat.dvd_trans dA (Nat.dvd_mul_left ..))
  exact ⟨X, Y, hXY, hle, hX1, by omega, hsame, by omega, by omega, by omega, hb1⟩
end
end Go.Proofs.Ytagocllbfbbneaa.Gcd
