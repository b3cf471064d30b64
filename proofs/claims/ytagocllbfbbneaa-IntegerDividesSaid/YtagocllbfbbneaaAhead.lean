/- lookAhead: what the steps on the 64 top bits tell. -/
import Derived.Test.YtagocllbfbbneaaPowA
import Derived.Test.YtagocllbfbbneaaWindow
import Derived.Test.YtagocllbfbbneaaGcdMath
namespace Go.Proofs.Ytagocllbfbbneaa
open Go.RowKit Gcd
set_option linter.unusedSimpArgs false

/-- A variable for steps: five fields at h. -/
def Five (w : World) (h : Nat) (a b c d e : Value) : Prop :=
  w.cell? ⟨h, 0, none⟩ = some a ∧ w.cell? ⟨h, 1, none⟩ = some b ∧ w.cell? ⟨h, 2, none⟩ = some c ∧ w.cell? ⟨h, 3, none⟩ = some d ∧ w.cell? ⟨h, 4, none⟩ = some e ∧
  w.frozen? ⟨h, 0, none⟩ = false ∧ w.frozen? ⟨h, 1, none⟩ = false ∧ w.frozen? ⟨h, 2, none⟩ = false ∧ w.frozen? ⟨h, 3, none⟩ = false ∧ w.frozen? ⟨h, 4, none⟩ = false
theorem five_new (w : World) (a b c d e : Value) (t : TypeId) : Five (w.alloc (.cells #[a, b, c, d, e] t)) w.heap.size a b c d e := by
  unfold Five
  refine ⟨?_, ?_, ?_, ?_, ?_, ?_, ?_, ?_, ?_, ?_⟩ <;> go_simp
theorem five_below {w w' : World} {h : Nat} {a b c d e : Value} (k : Five w h a b c d e) (hb : Below w.heap.size w w') (hh : h < w.heap.size) : Five w' h a b c d e := by
  obtain ⟨k0, k1, k2, k3, k4, k5, k6, k7, k8, k9⟩ := k
  exact ⟨(hb.cell (p := ⟨h, 0, none⟩) hh).trans k0, (hb.cell (p := ⟨h, 1, none⟩) hh).trans k1, (hb.cell (p := ⟨h, 2, none⟩) hh).trans k2, (hb.cell (p := ⟨h, 3, none⟩) hh).trans k3, (hb.cell (p := ⟨h, 4, none⟩) hh).trans k4,
    (hb.frozen (p := ⟨h, 0, none⟩) hh).trans k5, (hb.frozen (p := ⟨h, 1, none⟩) hh).trans k6, (hb.frozen (p := ⟨h, 2, none⟩) hh).trans k7, (hb.frozen (p := ⟨h, 3, none⟩) hh).trans k8, (hb.frozen (p := ⟨h, 4, none⟩) hh).trans k9⟩
def stepsV (a0 b0 a1 b1 : Nat) (odd : Bool) : Value := .agg #[.int .u64 a0, .int .u64 b0, .int .u64 a1, .int .u64 b1, .bool odd]
def IsAhead (w w' : World) (A B : Nat) (e : Ending) : Prop := Below w.heap.size w w' ∧ ∃ (a0 b0 a1 b1 : Nat) (odd : Bool), e = .returned (.tuple #[stepsV a0 b0 a1 b1 odd, .bool (decide (b0 ≠ 0))]) ∧ (b0 ≠ 0 → ∃ X Y, Gcd.Good A B a0 b0 a1 b1 odd X Y)
def AtLook (m0 n0 : Nat) (mv nv u0 u1 u2 v0 v1 v2 ov : Value) : Prop := ∃ (m n a0 a1 a2 b0 b1 b2 : Nat) (odd : Bool), mv = .int .u64 m ∧ nv = .int .u64 n ∧ u0 = .int .u64 a0 ∧ u1 = .int .u64 a1 ∧ u2 = .int .u64 a2 ∧ v0 = .int .u64 b0 ∧ v1 = .int .u64 b1 ∧ v2 = .int .u64 b2 ∧ ov = .bool odd ∧ Look m0 n0 m n a0 a1 a2 b0 b1 b2 odd
theorem top_part {a b : Nat} (hab : b ≤ a) (hb : 64 ≤ bl a) : a / 2 ^ (bl a - 64) < 18446744073709551616 ∧ b / 2 ^ (bl a - 64) ≤ a / 2 ^ (bl a - 64) := by
  refine ⟨?_, Nat.div_le_div_right hab⟩
  rw [Nat.div_lt_iff_lt_mul (Nat.two_pow_pos _)]
  have h := bl_le.1 (Nat.le_refl (bl a))
  have e : 18446744073709551616 * 2 ^ (bl a - 64) = 2 ^ bl a := by
    rw [show (18446744073709551616 : Nat) = 2 ^ 64 from rfl, ← Nat.pow_add]
    congr 1
    omega
  rw [e]
  exact h
theorem look_out {a b m0 n0 m n a0 a1 a2 b0 b1 b2 : Nat} {odd : Bool} {at_ : Nat} (h : Look m0 n0 m n a0 a1 a2 b0 b1 b2 odd) (ha : a / 2 ^ at_ = m0) (hb : b / 2 ^ at_ = n0) (hm : m0 < 18446744073709551616) (h0 : 0 < a) (hb0 : b0 ≠ 0) : ∃ X Y, Gcd.Good a b a0 b0 a1 b1 odd X Y := by
  have hp := Nat.two_pow_pos at_
  refine h.good hb0 (t := 2 ^ at_) (al := a % 2 ^ at_) (be := b % 2 ^ at_) ?_ ?_ (Nat.mod_lt _ hp) (Nat.mod_lt _ hp) h0 hm
  · rw [← ha, Nat.mul_comm]; exact (Nat.div_add_mod _ _).symm
  · rw [← hb, Nat.mul_comm]; exact (Nat.div_add_mod _ _).symm

set_option maxRecDepth 100000 in
set_option maxHeartbeats 4000000 in
theorem lookAhead_any (A : Option Addr) (c a : Nat) (xs : List Nat) (B : Option Addr) (c' b : Nat) (ys : List Nat) (w : World) (ha : Limbs w A c xs a) (hb : Limbs w B c' ys b) (hl : xs.length ≤ 400000) (hl' : ys.length ≤ 400000) (hab : b ≤ a) (h64 : 64 ≤ bl a) :
    Calls Try.prog 125 #[.slice A xs.length c, .slice B ys.length c'] w fun e w' => IsAhead w w' a b e := by
  obtain ⟨hm1, hn1⟩ := top_part hab h64
  have hbl := bl_limbs ha
  obtain ⟨at_, hat⟩ : ∃ k, bl a - 64 = k := ⟨_, rfl⟩
  rw [hat] at hm1 hn1
  obtain ⟨m0, hm0⟩ : ∃ k, a / 2 ^ at_ = k := ⟨_, rfl⟩
  obtain ⟨n0, hn0⟩ : ∃ k, b / 2 ^ at_ = k := ⟨_, rfl⟩
  rw [hm0] at hm1 hn1
  rw [hn0] at hn1
  have h0 : 0 < a := by
    rcases Nat.eq_zero_or_pos a with e | e
    · subst e; have : bl 0 = 0 := rfl; omega
    · exact e
  obtain ⟨W, hW⟩ : ∃ W, W = w.alloc (.cells #[.int .u64 0, .int .u64 0, .int .u64 0, .int .u64 0, .bool false] 140) := ⟨_, rfl⟩
  have h5 : Five W w.heap.size (.int .u64 0) (.int .u64 0) (.int .u64 0) (.int .u64 0) (.bool false) := by rw [hW]; exact five_new _ _ _ _ _ _ _
  have hbW : Below w.heap.size w W := by rw [hW]; exact (Below.refl _ _).alloc (Nat.le_refl _) _
  have hla : Limbs W A c xs a := by rw [hW]; exact ⟨ha.1, ha.2.1.alloc _, ha.2.2⟩
  have hlb : Limbs W B c' ys b := by rw [hW]; exact ⟨hb.1, hb.2.1.alloc _, hb.2.2⟩
  have H1 := Lib.hid (width_any A c a xs W hla (by omega))
  have H2 := window_any A c a xs at_ W hla (by omega) (by omega)
  have H3 := window_any B c' b ys at_ W hlb (by omega) (by omega)
  rw [hm0, Nat.mod_eq_of_lt hm1] at H2
  rw [hn0, Nat.mod_eq_of_lt (by omega)] at H3
  have H4 := Lib.hid (And.intro H2 H3)
  have hWs : w.heap.size < W.heap.size := by rw [hW]; simp
  have HW := Lib.hid (And.intro h5 (And.intro hbW hWs))
  clear hWs
  have hsub : (bl a : Int) - 64 = (at_ : Int) := by omega
  have HE : Hid (∀ m n a0 a1 a2 b0 b1 b2 odd, Look m0 n0 m n a0 a1 a2 b0 b1 b2 odd → b0 ≠ 0 → ∃ X Y, Gcd.Good a b a0 b0 a1 b1 odd X Y) := Lib.hid fun m n a0 a1 a2 b0 b1 b2 odd h hb0 => look_out h hm0 hn0 hm1 h0 hb0
  have hbl2 : (bl a : Int) ≤ 20000000 := by omega
  have HS := Lib.hid (look_start m0 n0 hn1)
  clear h5 hbW hla hlb H2 H3 ha hb hab h64 hat hm0 hn0 h0 hbl hl hl' hn1
  go_enter Try.func125, Try.ntmps125
  go_wp2_with fail
  rw [← hW]
  clear hW
  refine H1.out.mono ?_
  rintro e w1 ⟨rfl, rfl⟩
  go_wp2_with fail
  refine H4.out.1.mono ?_
  rintro e w1 ⟨rfl, rfl⟩
  go_wp2_with fail
  refine H4.out.2.mono ?_
  rintro e w1 ⟨rfl, rfl⟩
  go_wp2_with fail
  clear H1 H4 hsub hbl2
  go_loopw [7, 8, 9, 10, 11, 12, 13, 14, 15] (fun mv nv u0 u1 u2 v0 v1 v2 ov wr => AtLook m0 n0 mv nv u0 u1 u2 v0 v1 v2 ov ∧ Drew W wr) (fun _ nv _ _ _ _ _ _ _ _ => (intOf nv).toNat)
  case atStart => exact ⟨⟨m0, n0, 0, 1, 0, 0, 0, 1, true, rfl, rfl, rfl, rfl, rfl, rfl, rfl, rfl, rfl, HS.out⟩, Drew.refl _⟩
  case round =>
    obtain ⟨⟨m, n, a0, a1, a2, b0, b1, b2, odd, rfl, rfl, rfl, rfl, rfl, rfl, rfl, rfl, rfl, hlk⟩, hdr⟩ := hrel
    by_cases hnb : b2 ≤ n
    · have hsum := hlk.sum_le hnb
      have hle := hlk.le
      have c1 : (b2 : Int) ≤ (n : Int) := by omega
      obtain ⟨d, hd⟩ : ∃ d, m - n = d := ⟨_, rfl⟩
      obtain ⟨t, ht⟩ : ∃ t, b1 + b2 = t := ⟨_, rfl⟩
      have c2 : (m : Int) - (n : Int) = (d : Int) := by omega
      have c3 : (b1 : Int) + (b2 : Int) = (t : Int) := by omega
      have hmw : m ≤ 18446744073709551615 := by
        have h1 := hlk.whole
        have h2 : 1 * m ≤ b2 * m := Nat.mul_le_mul_right _ hlk.b2p
        omega
      have c4 : d ≤ 18446744073709551615 := by omega
      have c5 : t ≤ 18446744073709551615 := by omega
      by_cases hgo : t ≤ d
      · have c6 : (t : Int) ≤ (d : Int) := by omega
        have hnx := hlk.next_le hnb (by omega)
        have hst := hlk.step hnb (by omega)
        obtain ⟨q, hq⟩ : ∃ q, m / n = q := ⟨_, rfl⟩
        obtain ⟨r, hr⟩ : ∃ r, m % n = r := ⟨_, rfl⟩
        rw [hq] at hnx hst
        rw [hr] at hst
        obtain ⟨qa, hqa⟩ : ∃ x, q * a2 = x := ⟨_, rfl⟩
        obtain ⟨qb, hqb⟩ : ∃ x, q * b2 = x := ⟨_, rfl⟩
        rw [hqa] at hst hnx
        rw [hqb] at hst hnx
        have hnp : 0 < n := Nat.lt_of_lt_of_le hlk.b2p hnb
        have hrn : r < n := by rw [← hr]; exact Nat.mod_lt _ hnp
        have hqm : q ≤ m := by rw [← hq]; exact Nat.div_le_self _ _
        have q0 : (m : Int) / (n : Int) = (q : Int) := by rw [← Int.natCast_ediv, hq]
        have r0 : (m : Int) % (n : Int) = (r : Int) := by rw [← Int.natCast_emod, hr]
        have hne : ((n : Int) != 0) = true := by rw [bne_iff_ne]; omega
        have hne' : ¬ (n : Int) = 0 := by omega
        have hn1 : (1 : Int) ≤ (n : Int) := by omega
        have k1 : (q : Int) * (a2 : Int) = (qa : Int) := by rw [← hqa, Int.natCast_mul]
        have k2 : (q : Int) * (b2 : Int) = (qb : Int) := by rw [← hqb, Int.natCast_mul]
        have s1 : a1 + qa ≤ 18446744073709551615 := by omega
        have s2 : b1 + qb ≤ 18446744073709551615 := by omega
        have s3 : qa ≤ 18446744073709551615 := by omega
        have s4 : qb ≤ 18446744073709551615 := by omega
        have s5 : q ≤ 18446744073709551615 := by omega
        have HD := Lib.hid (And.intro hst (And.intro hdr hrn))
        clear hst hdr hlk hnx hq hr hqa hqb hd ht hsum hm1
        go_upto_region 7 with fail
        go_quiet (fail)
        go_wp2
        go_roundw
        case rel =>
          rw [r0]
          exact ⟨⟨n, r, a1, a2, a1 + qa, b1, b2, b1 + qb, !odd, rfl, rfl, rfl, rfl, congrArg (Value.int IntKind.u64) (Int.natCast_add _ _).symm, rfl, rfl, congrArg (Value.int IntKind.u64) (Int.natCast_add _ _).symm, rfl, HD.out.1⟩, HD.out.2.1.more _⟩
        case measure =>
          have := HD.out.2.2
          rw [r0]
          simp [intOf]
          omega
      · have c6 : ¬ (t : Int) ≤ (d : Int) := by omega
        clear hd ht hsum hgo hle hmw
        obtain ⟨g0, g1, g2, g3, g4, g5, g6, g7, g8, g9⟩ := five_below HW.out.1 (hdr.below _) HW.out.2.2
        obtain ⟨bo, hbo⟩ : ∃ bo, ((b0 : Int) != 0) = bo := ⟨_, rfl⟩
        have hbd : bo = decide (b0 ≠ 0) := by
          rw [← hbo]
          rcases Nat.eq_zero_or_pos b0 with e | e
          · subst e; rfl
          · rw [decide_eq_true (by omega), bne_iff_ne]; omega
        have HD := Lib.hid (And.intro (And.intro hbd (HE.out _ _ _ _ _ _ _ _ _ hlk)) hdr)
        clear hlk hdr hbd
        go_wp2
        refine bodyPost_ret (v := .tuple #[stepsV a0 b0 a1 b1 odd, .bool bo]) (by simp [stepsV, results, Try.results125, go_sem, g0, g1, g2, g3, g4]) rfl ?_
        have hb := below_then HW.out.2.1 (HD.out.2.below _)
        exact ⟨((((hb.setCell (p := ⟨w.heap.size, 0, none⟩) (Nat.le_refl _) _).setCell (p := ⟨w.heap.size, 1, none⟩) (Nat.le_refl _) _).setCell (p := ⟨w.heap.size, 2, none⟩) (Nat.le_refl _) _).setCell (p := ⟨w.heap.size, 3, none⟩) (Nat.le_refl _) _).setCell (p := ⟨w.heap.size, 4, none⟩) (Nat.le_refl _) _, a0, b0, a1, b1, odd, by rw [← HD.out.1.1], HD.out.1.2⟩
    · have c1 : ¬ (b2 : Int) ≤ (n : Int) := by omega
      clear hnb
      obtain ⟨g0, g1, g2, g3, g4, g5, g6, g7, g8, g9⟩ := five_below HW.out.1 (hdr.below _) HW.out.2.2
      obtain ⟨bo, hbo⟩ : ∃ bo, ((b0 : Int) != 0) = bo := ⟨_, rfl⟩
      have hbd : bo = decide (b0 ≠ 0) := by
        rw [← hbo]
        rcases Nat.eq_zero_or_pos b0 with e | e
        · subst e; rfl
        · rw [decide_eq_true (by omega), bne_iff_ne]; omega
      have HD := Lib.hid (And.intro (And.intro hbd (HE.out _ _ _ _ _ _ _ _ _ hlk)) hdr)
      clear hlk hdr hbd
      go_wp2
      refine bodyPost_ret (v := .tuple #[stepsV a0 b0 a1 b1 odd, .bool bo]) (by simp [stepsV, results, Try.results125, go_sem, g0, g1, g2, g3, g4]) rfl ?_
      have hb := below_then HW.out.2.1 (HD.out.2.below _)
      exact ⟨((((hb.setCell (p := ⟨w.heap.size, 0, none⟩) (Nat.le_refl _) _).setCell (p := ⟨w.heap.size, 1, none⟩) (Nat.le_refl _) _).setCell (p := ⟨w.heap.size, 2, none⟩) (Nat.le_refl _) _).setCell (p := ⟨w.heap.size, 3, none⟩) (Nat.le_refl _) _).setCell (p := ⟨w.heap.size, 4, none⟩) (Nat.le_refl _) _, a0, b0, a1, b1, odd, by rw [← HD.out.1.1], HD.out.1.2⟩
end Go.Proofs.Ytagocllbfbbneaa
