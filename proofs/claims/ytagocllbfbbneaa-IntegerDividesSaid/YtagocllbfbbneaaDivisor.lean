/- divisor: the greatest common divisor, by Lehmer's way. -/
import Derived.Test.YtagocllbfbbneaaApply
namespace Go.Proofs.Ytagocllbfbbneaa
open Go.RowKit Gcd
set_option linter.unusedSimpArgs false

theorem gcd_next (a b : Nat) : Nat.gcd b (a % b) = Nat.gcd a b := by
  rw [Nat.gcd_comm b, ← Nat.gcd_rec, Nat.gcd_comm]
theorem wide_two {w : World} {A : Option Addr} {c b a : Nat} {ys : List Nat} (h : Limbs w A c ys b) (hl : 2 < ys.length) (hab : b ≤ a) : 64 ≤ bl a ∧ 0 < b := by
  have h1 := Lm.val_ge (b := B32) (Nat.lt_of_le_of_lt (Nat.zero_le _) hl) h.2.2.2.1
  rw [h.2.2.2.2] at h1
  have h2 : B32 ^ 2 ≤ B32 ^ (ys.length - 1) := Nat.pow_le_pow_right B32_pos (by omega)
  have e : B32 ^ 2 = 18446744073709551616 := by decide
  rw [e] at h2
  refine ⟨?_, by omega⟩
  rcases Nat.lt_or_ge (bl a) 64 with hlt | hge
  · have h3 := bl_le.1 (show bl a ≤ 63 by omega)
    have e2 : (2 : Nat) ^ 63 = 9223372036854775808 := by decide
    rw [e2] at h3
    omega
  · exact hge
theorem limbs_pos {w : World} {A : Option Addr} {c b : Nat} {ys : List Nat} (h : Limbs w A c ys b) (hb : 0 < b) : 0 < ys.length := by
  rcases Nat.eq_zero_or_pos ys.length with e | e
  · have := List.eq_nil_of_length_eq_zero e
    subst this
    have := h.2.2.2.2
    rw [Lm.val_nil] at this
    omega
  · exact e
theorem limbs_shorter {w w' : World} {A B : Option Addr} {c c' a b : Nat} {xs ys : List Nat} (h : Limbs w A c xs a) (h2 : Limbs w' B c' ys b) (hab : a ≤ b) : xs.length ≤ ys.length := by
  have := Lm.val_lt h2.2.2.1
  rw [h2.2.2.2.2] at this
  exact h.len (Nat.lt_of_le_of_lt hab this)
theorem limbs_two {w : World} {A : Option Addr} {c b : Nat} {ys : List Nat} (h : Limbs w A c ys b) (hl : ys.length ≤ 2) : b ≤ 18446744073709551615 := by
  have h1 := Lm.val_lt h.2.2.1
  rw [h.2.2.2.2] at h1
  have h2 : B32 ^ ys.length ≤ B32 ^ 2 := Nat.pow_le_pow_right B32_pos hl
  have e : B32 ^ 2 = 18446744073709551616 := by decide
  rw [e] at h2
  omega
/-- What the loop keeps: two rows of limbs, the first not less, with the divisor of the start. -/
def GcdAt (w : World) (g k : Nat) (av bv : Value) (wr : World) : Prop := ∃ (A : Option Addr) (c : Nat) (xs : List Nat) (a : Nat) (B : Option Addr) (c' : Nat) (ys : List Nat) (b : Nat),
  av = .slice A xs.length c ∧ bv = .slice B ys.length c' ∧ Limbs wr A c xs a ∧ Limbs wr B c' ys b ∧ b ≤ a ∧ xs.length ≤ 300000 ∧ Nat.gcd a b = g ∧ a + b = k ∧ Below w.heap.size w wr

set_option maxRecDepth 100000 in
set_option maxHeartbeats 4000000 in
theorem divisor_any (A : Option Addr) (c m : Nat) (xs : List Nat) (B : Option Addr) (c' n : Nat) (ys : List Nat) (w : World) (hx : Limbs w A c xs m) (hy : Limbs w B c' ys n) (hl : xs.length ≤ 300000) (hl' : ys.length ≤ 300000) :
    Calls Try.prog 93 #[.slice A xs.length c, .slice B ys.length c'] w fun e w' => IsLims w w' (Nat.gcd m n) e := by
  obtain ⟨g, hg⟩ : ∃ g, Nat.gcd m n = g := ⟨_, rfl⟩
  rw [hg]
  have HG := Lib.hid hg
  clear hg
  have H := Lib.hid (And.intro hx hy)
  clear hx hy
  go_enter Try.func93, Try.ntmps93
  go_wp2_with fail
  refine (clone_any A c xs w H.out.1.2.1 (by omega)).mono ?_
  intro e w1 hk1
  obtain ⟨A1, c1, rfl, hl1, hb1⟩ := limbs_cloned H.out.1 hk1
  clear hk1
  have hy1 := H.out.2.below hb1
  have H1 := Lib.hid (And.intro hl1 (And.intro hy1 hb1))
  clear hl1 hy1 hb1
  go_wp2_with fail
  refine (clone_any B c' ys w1 H1.out.2.1.2.1 (by omega)).mono ?_
  intro e w2 hk2
  obtain ⟨B1, d1, rfl, hl2, hb2⟩ := limbs_cloned H1.out.2.1 hk2
  clear hk2
  have H2 := Lib.hid (And.intro (H1.out.1.below hb2) (And.intro hl2 (below_then H1.out.2.2 hb2)))
  clear hl2 hb2
  obtain ⟨o, ho⟩ : ∃ o, ordOf m n = o := ⟨_, rfl⟩
  have hc := compare_limbs o H2.out.1 H2.out.2.1 (by omega) ho
  have HC := Lib.hid hc
  have HO := Lib.hid ho
  clear hc ho
  go_wp2_with fail
  refine HC.out.mono ?_
  rintro e w3 ⟨⟨k3, rfl⟩, rfl⟩
  go_upto_if 22 with fail
  go_cut [5, 6] (fun av bv wx => GcdAt w g (m + n) av bv wx)
  case first => as_aux_lemma =>
    have hA := H2.out.1.below ((Drew.mk w2 k3).below _)
    have hB := H2.out.2.1.below ((Drew.mk w2 k3).below _)
    by_cases hlt : o < 0
    · go_wp2
      go_meet
      refine ⟨B1, d1, ys, n, A1, c1, xs, m, rfl, rfl, hB, hA, ?_, hl', by rw [Nat.gcd_comm]; exact HG.out, by omega, ?_⟩
      · have := HO.out
        unfold ordOf at this
        split at this <;> omega
      · exact below_then H2.out.2.2 ((Drew.mk w2 k3).below _)
    · go_wp2
      go_meet
      refine ⟨A1, c1, xs, m, B1, d1, ys, n, rfl, rfl, hA, hB, ?_, hl, HG.out, rfl, ?_⟩
      · have := HO.out
        unfold ordOf at this
        split at this <;> omega
      · exact below_then H2.out.2.2 ((Drew.mk w2 k3).below _)
  case rest =>
    have HS := Lib.hid hcut
    clear hcut HC HO H1 H2
    go_wp2_with fail
    go_loopg [5, 6] (m + n) (fun k av bv wr => GcdAt w g k av bv wr)
    case atStart => exact HS.out
    case round =>
      obtain ⟨Ap, cp, ps, a, Bp, dp, qs, b, rfl, rfl, hap, hbp, hab, hpl, hgc, hk, hbw⟩ := hrel
      subst hk
      by_cases h2 : 2 < qs.length
      · have hi2 : (2 : Int) < (qs.length : Int) := by omega
        obtain ⟨hw64, hb0⟩ := wide_two hbp h2 hab
        have hql := limbs_shorter hbp hap hab
        have hp0 := limbs_pos hap (by omega)
        have HA := Lib.hid (lookAhead_any Ap cp a ps Bp dp b qs wr hap hbp (by omega) (by omega) hab hw64)
        have HP := Lib.hid (And.intro hap (And.intro hbp (And.intro hab (And.intro hgc (And.intro hbw hb0)))))
        clear hap hbp hab hgc hbw hb0 hw64
        go_wp2_with fail
        refine HA.out.mono ?_
        rintro e w1 ⟨hb1, a0, b0, a1, b1, odd, rfl, hgood⟩
        have HQ := Lib.hid (And.intro (HP.out.1.below hb1) (And.intro (HP.out.2.1.below hb1) (And.intro (below_then HP.out.2.2.2.2.1 hb1) hgood)))
        clear hb1 hgood
        unfold stepsV
        by_cases hbz : b0 ≠ 0
        · rw [decide_eq_true hbz]
          go_wp2_with fail
          have hbA : Below w1.heap.size w1 (w1.alloc (.cells #[.int .u64 a0, .int .u64 b0, .int .u64 a1, .int .u64 b1, .bool odd] 140)) := (Below.refl _ _).alloc (Nat.le_refl _) _
          have hbw2 := below_then HQ.out.2.2.1 hbA
          have hA2 := HQ.out.1.below hbA
          have hB2 := HQ.out.2.1.below hbA
          obtain ⟨X, Y, hgd⟩ := HQ.out.2.2.2 hbz
          have HB := Lib.hid (apply_any a0 b0 a1 b1 odd Ap cp a ps Bp dp b qs X Y _ hA2 hB2 (by omega) (by omega) (by omega) hp0 hgd)
          have HR := Lib.hid (And.intro hbw2 hgd)
          clear hbA hbw2 hA2 hB2 hgd
          refine HB.out.mono ?_
          rintro e w3 ⟨A3, c3, z3, A4, c4, z4, rfl, hl3, hl4, hb3⟩
          have hsh := limbs_shorter hl3 HP.out.2.1 HR.out.2.leB
          have HF := Lib.hid (And.intro hl3 (And.intro hl4 hb3))
          clear hl3 hl4 hb3
          go_wp2
          go_roundg (X + Y)
          case rel => exact ⟨A3, c3, z3, X, A4, c4, z4, Y, rfl, rfl, HF.out.1, HF.out.2.1, HR.out.2.le, by omega, HR.out.2.same.trans HP.out.2.2.2.1, rfl, below_then HR.out.1 HF.out.2.2⟩
          case measure => have := HR.out.2.less; omega
        · rw [decide_eq_false hbz]
          go_wp2_with fail
          have hbA : Below w1.heap.size w1 (w1.alloc (.cells #[.int .u64 a0, .int .u64 b0, .int .u64 a1, .int .u64 b1, .bool odd] 140)) := (Below.refl _ _).alloc (Nat.le_refl _) _
          have hbw2 := below_then HQ.out.2.2.1 hbA
          have hA2 := HQ.out.1.below hbA
          have hB2 := HQ.out.2.1.below hbA
          have HB := Lib.hid (divide_all Ap cp ps Bp dp qs a b _ hA2 hB2 hpl HP.out.2.2.2.2.2)
          have HR := Lib.hid (And.intro hbw2 hB2)
          clear hbA hbw2 hA2 hB2
          refine HB.out.mono ?_
          rintro e w3 ⟨Aq, cq, zq, Ar, cr, zr, rfl, hq3, hr3, hb3⟩
          have hmod := Nat.mod_lt a HP.out.2.2.2.2.2
          have HF := Lib.hid (And.intro (HR.out.2.below hb3) (And.intro hr3 (And.intro (below_then HR.out.1 hb3) hmod)))
          clear hq3 hr3 hb3 hmod
          go_wp2
          go_roundg (b + a % b)
          case rel => exact ⟨Bp, dp, qs, b, Ar, cr, zr, a % b, rfl, rfl, HF.out.1, HF.out.2.1, Nat.le_of_lt HF.out.2.2.2, by omega, (gcd_next a b).trans HP.out.2.2.2.1, rfl, HF.out.2.2.1⟩
          case measure => have := HF.out.2.2.2; have := HP.out.2.2.1; omega
      · have hi2 : ¬ (2 : Int) < (qs.length : Int) := by omega
        rcases Nat.eq_zero_or_pos qs.length with hq0 | hq0
        · obtain rfl := List.eq_nil_of_length_eq_zero hq0
          have hb0 : b = 0 := by have := hbp.2.2.2.2; rw [Lm.val_nil] at this; exact this.symm
          subst hb0
          rw [Nat.gcd_zero_right] at hgc
          subst hgc
          have HP := Lib.hid (And.intro hap hbw)
          have hl0 : (([] : List Nat).length : Int) = 0 := rfl
          clear hap hbp hab hbw
          go_wp2
          go_ret
          exact ⟨Ap, cp, ps, rfl, HP.out.1, HP.out.2⟩
        · have hne : ((qs.length : Int) == 0) = false := by rw [beq_eq_false_iff_ne]; omega
          have hb0 : 0 < b := by
            rcases Nat.eq_zero_or_pos b with e | e
            · subst e
              have := hbp.len (m := 0) (by decide)
              omega
            · exact e
          have HB := Lib.hid (divide_all Ap cp ps Bp dp qs a b wr hap hbp hpl hb0)
          have hbl := limbs_two hbp (by omega)
          have HP := Lib.hid (And.intro hbp (And.intro hgc (And.intro hbw (And.intro hb0 hbl))))
          clear hap hbp hab hgc hbw hb0 hbl
          go_wp2_with fail
          refine HB.out.mono ?_
          rintro e w3 ⟨Aq, cq, zq, Ar, cr, zr, rfl, hq3, hr3, hb3⟩
          have hmod := Nat.mod_lt a HP.out.2.2.2.1
          have hsh := limbs_shorter hr3 HP.out.1 (Nat.le_of_lt hmod)
          have L1 := low_any Bp dp b qs w3 (HP.out.1.below hb3) (by omega)
          have L2 := low_any Ar cr (a % b) zr w3 hr3 (by omega)
          obtain ⟨r, hr⟩ : ∃ r, a % b = r := ⟨_, rfl⟩
          have hgr : Nat.gcd b r = g := by rw [← hr, gcd_next]; exact HP.out.2.1
          rw [hr] at L2 hmod
          have HL := Lib.hid (And.intro L1 L2)
          have HF := Lib.hid (And.intro (below_then HP.out.2.2.1 hb3) (And.intro hmod hgr))
          clear hq3 hr3 hb3 hmod L1 L2 hr hgr
          go_wp2_with fail
          refine HL.out.1.mono ?_
          rintro e wl ⟨rfl, rfl⟩
          go_wp2_with fail
          refine HL.out.2.mono ?_
          rintro e wl ⟨rfl, rfl⟩
          go_wp2_with fail
          go_loopw [13, 14] (fun mv nv wx => ∃ i j : Nat, mv = .int .u64 i ∧ nv = .int .u64 j ∧ Nat.gcd i j = g ∧ i ≤ 18446744073709551615 ∧ j ≤ 18446744073709551615 ∧ Drew w3 wx) (fun _ nv _ => (intOf nv).toNat)
          case atStart => exact ⟨b, r, rfl, rfl, HF.out.2.2, HP.out.2.2.2.2, by have := HF.out.2.1; have := HP.out.2.2.2.2; omega, Drew.refl _⟩
          case round =>
            obtain ⟨i, j, rfl, rfl, hgc, hi, hj, hdr⟩ := hrel
            rcases Nat.eq_zero_or_pos j with hj0 | hj0
            · have hne2 : ((j : Int) != 0) = false := by subst hj0; rfl
              have hgi : i = g := by rw [hj0, Nat.gcd_zero_right] at hgc; exact hgc
              have HD := Lib.hid (And.intro hdr hgi)
              have HW := Lib.hid (word_any i wr (by omega))
              clear hdr hgc hgi
              go_wp2_with fail
              refine HW.out.mono ?_
              rintro e w4 ⟨A4, c4, z4, rfl, hl4, hb4⟩
              go_wp2
              go_ret
              exact ⟨A4, c4, z4, rfl, by rw [← HD.out.2]; exact hl4, below_then (below_then HF.out.1 (HD.out.1.below _)) hb4⟩
            · have hne2 : ((j : Int) != 0) = true := by rw [bne_iff_ne]; omega
              have hne3 : ¬ (j : Int) = 0 := by omega
              have hj1 : (1 : Int) ≤ (j : Int) := by omega
              obtain ⟨t, ht⟩ : ∃ t, i % j = t := ⟨_, rfl⟩
              have htj : t < j := by rw [← ht]; exact Nat.mod_lt _ hj0
              have t0 : (i : Int) % (j : Int) = (t : Int) := by rw [← Int.natCast_emod, ht]
              have HD := Lib.hid (And.intro hdr (And.intro (show Nat.gcd j t = g by rw [← ht, gcd_next]; exact hgc) htj))
              clear hdr hgc ht
              go_upto_region 15 with fail
              go_quiet (fail)
              go_wp2
              go_roundw
              case rel =>
                rw [t0]
                exact ⟨j, t, rfl, rfl, HD.out.2.1, hj, by omega, HD.out.1.more _⟩
              case measure =>
                have := HD.out.2.2
                rw [t0]
                simp [intOf]
                omega
end Go.Proofs.Ytagocllbfbbneaa
