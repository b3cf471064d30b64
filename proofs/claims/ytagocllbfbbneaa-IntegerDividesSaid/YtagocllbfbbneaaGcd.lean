/- Gcd of the program. -/
import Derived.Test.YtagocllbfbbneaaDivisor
namespace Go.Proofs.Ytagocllbfbbneaa
open Go.RowKit
set_option linter.unusedSimpArgs false

theorem gcd_fits {w : World} {A : Option Addr} {c m : Nat} {zs : List Nat} {x y : Nat} (h : Limbs w A c zs (Nat.gcd x y)) (hm : m ≤ 300000) (hx : x < B32 ^ m) (hy : y < B32 ^ m) : zs.length ≤ 1000000 := by
  have hg : Nat.gcd x y < B32 ^ m := by
    rcases Nat.eq_zero_or_pos x with e | e
    · rw [e, Nat.gcd_zero_left]; exact hy
    · exact Nat.lt_of_le_of_lt (Nat.gcd_le_left y e) hx
  have := h.len hg
  omega

set_option maxRecDepth 100000 in
set_option maxHeartbeats 2000000 in
theorem Gcd_any (v1 v2 : Value) (x y : Int) (m : Nat) (w : World) (h1 : IntAt w v1 x) (h2 : IntAt w v2 y) (hm : m ≤ 300000) (hx : x.natAbs < B32 ^ m) (hy : y.natAbs < B32 ^ m) :
    Calls Try.prog 44 #[v1, v2] w fun e w' => IsInt w w' ((Int.gcd x y : Nat) : Int) e := by
  obtain ⟨b1, A1, c1, zs1, rfl, hs1, hd1⟩ := h1
  obtain ⟨b2, A2, c2, zs2, rfl, hs2, hd2⟩ := h2
  have l1 := Nat.le_trans (hd1.len hx) hm
  have l2 := Nat.le_trans (hd2.len hy) hm
  have hb0 := begun2_below w (.bool b1) (.slice A1 zs1.length c1) (.bool b2) (.slice A2 zs2.length c2) 28
  have hT1 := begun2_x w (.bool b1) (.slice A1 zs1.length c1) (.bool b2) (.slice A2 zs2.length c2) 28
  have hT2 := begun2_y w (.bool b1) (.slice A1 zs1.length c1) (.bool b2) (.slice A2 zs2.length c2) 28
  have hR := begun2_r w (.bool b1) (.slice A1 zs1.length c1) (.bool b2) (.slice A2 zs2.length c2) 28
  have hsz := begun2_size w (.bool b1) (.slice A1 zs1.length c1) (.bool b2) (.slice A2 zs2.length c2) 28
  obtain ⟨W, hW⟩ : ∃ W, begun2 w (.bool b1) (.slice A1 zs1.length c1) (.bool b2) (.slice A2 zs2.length c2) 28 = W := ⟨_, rfl⟩
  rw [hW] at hb0 hT1 hT2 hR hsz
  unfold begun2 at hW
  have HD := Lib.hid (divisor_any A1 c1 x.natAbs zs1 A2 c2 y.natAbs zs2 W (hd1.below hb0) (hd2.below hb0) l1 l2)
  have H := Lib.hid (And.intro hb0 (And.intro hR (And.intro hsz (And.intro hx hy))))
  obtain ⟨p0, p1⟩ := id hT1
  obtain ⟨q0, q1⟩ := id hT2
  clear hb0 hT1 hT2 hR hsz hx hy hd1 hd2
  go_enter Try.func44, Try.ntmps44
  go_upto_region 1 with fail
  try rw [hW]
  clear hW
  go_wp2_with fail
  refine HD.out.mono ?_
  rintro e w1 ⟨A3, c3, z3, rfl, hl3, hb1⟩
  have hsg := signed_to false A3 c3 z3 ((Int.gcd x y : Nat) : Int) w1 hl3.2.1 hl3.2.2.1 (gcd_fits hl3 hm H.out.2.2.2.1 H.out.2.2.2.2) hl3.1 (by rw [hl3.2.2.2.2]; rfl)
  have HG := Lib.hid hsg
  have HB := Lib.hid (And.intro (H.out.2.1.step hb1 rfl (by rw [H.out.2.2.1]; omega)) (And.intro (below_then H.out.1 hb1) (Nat.le_trans (Nat.le_of_eq H.out.2.2.1.symm) hb1.size)))
  clear hsg hl3 hb1
  go_wp2_with fail
  refine HG.out.mono ?_
  rintro e w4 ⟨v4, rfl, ⟨b4, A4, c4, zs4, rfl, hsg4, hl4⟩, hb4⟩
  have r4 := HB.out.1.step hb4 rfl (by have := HB.out.2.2; omega)
  have b4' := below_then HB.out.2.1 hb4
  obtain ⟨⟨hr0, hr1⟩, hf0, hf1⟩ := id r4
  go_wp2
  have q := r4.1.stored (.bool b4) (.slice A4 zs4.length c4)
  obtain ⟨q0, q1⟩ := id q
  refine bodyPost_ret (v := .agg #[.bool b4, .slice A4 zs4.length c4]) (by simp [results, Try.results44, go_sem, q0, q1]) rfl ?_
  exact res_stored r4 hsg4 hl4 b4' (by omega)
end Go.Proofs.Ytagocllbfbbneaa
