/- Power of package integer with an absolute value of at most 1, for any exponent. -/
import Derived.Test.YtagocllbfbbneaaPowA
namespace Go.Proofs.Ytagocllbfbbneaa
open Go.RowKit
set_option linter.unusedSimpArgs false

set_option maxRecDepth 100000 in
set_option maxHeartbeats 1000000 in
theorem unit_one_all (b : Bool) (A : Option Addr) (c : Nat) (zs : List Nat) (n : Nat) (w : World) (hn : n = 0 ∨ (b = true ∧ n % 2 = 0)) (hn2 : n ≤ 9223372036854775807) :
    Calls Try.prog 94 #[.agg #[.bool b, .slice A zs.length c], .int .i64 (n : Int)] w fun e w' => IsInt w w' 1 e := by
  have hb0 := begun1_below w (.bool b) (.slice A zs.length c) 28
  have hT := begun1_x w (.bool b) (.slice A zs.length c) 28
  have hR := begun1_r w (.bool b) (.slice A zs.length c) 28
  have hs := begun1_size w (.bool b) (.slice A zs.length c) 28
  obtain ⟨W, hW⟩ : ∃ W, begun1 w (.bool b) (.slice A zs.length c) 28 = W := ⟨_, rfl⟩
  rw [hW] at hb0 hT hR hs
  unfold begun1 at hW
  have hsz : w.heap.size + 2 ≤ W.heap.size := by omega
  have hnw := New_pos 1 W (by decide)
  have H := Lib.hid (And.intro hb0 (And.intro hR (And.intro hT (And.intro hW hnw))))
  clear hb0 hT hR hs hW hnw
  rcases Nat.eq_zero_or_pos n with rfl | hpos
  · clear hn
    go_enter Try.func94, Try.ntmps94
    go_upto_region 1 with fail
    rw [H.out.2.2.2.1]
    go_wp2_with fail
    refine H.out.2.2.2.2.mono ?_
    rintro e w2 ⟨v2, rfl, ⟨b2, A2, c2, zs2, rfl, hsg2, hlim2⟩, hb2⟩
    have r2 := H.out.2.1.step hb2 rfl (by omega)
    obtain ⟨⟨hr0, hr1⟩, hf0, hf1⟩ := id r2
    go_wp2
    have q := r2.1.stored (.bool b2) (.slice A2 zs2.length c2)
    obtain ⟨q0, q1⟩ := id q
    refine bodyPost_ret (v := .agg #[.bool b2, .slice A2 zs2.length c2]) (by simp [results, Try.results94, go_sem, q0, q1]) rfl ?_
    exact res_stored r2 hsg2 hlim2 (below_then H.out.1 hb2) (by omega)
  · obtain ⟨rfl, he⟩ : b = true ∧ n % 2 = 0 := by rcases hn with h | h; omega; exact h
    have hne : ((n : Int) == 0) = false := by rw [beq_eq_false_iff_ne]; omega
    have hev : (bits .and .i64 (n : Int) 1 == 0) = true := by rw [i64_and1, beq_iff_eq]; omega
    obtain ⟨px0, px1⟩ := id H.out.2.2.1
    clear hn he
    go_enter Try.func94, Try.ntmps94
    go_upto_region 1 with fail
    rw [H.out.2.2.2.1]
    go_wp2_with fail
    refine H.out.2.2.2.2.mono ?_
    rintro e w2 ⟨v2, rfl, ⟨b2, A2, c2, zs2, rfl, hsg2, hlim2⟩, hb2⟩
    have r2 := H.out.2.1.step hb2 rfl (by omega)
    obtain ⟨⟨hr0, hr1⟩, hf0, hf1⟩ := id r2
    clear px0 px1
    go_wp2
    have q := r2.1.stored (.bool b2) (.slice A2 zs2.length c2)
    obtain ⟨q0, q1⟩ := id q
    refine bodyPost_ret (v := .agg #[.bool b2, .slice A2 zs2.length c2]) (by simp [results, Try.results94, go_sem, q0, q1]) rfl ?_
    exact res_stored r2 hsg2 hlim2 (below_then H.out.1 hb2) (by omega)

theorem unitPower_all (b : Bool) (A : Option Addr) (c : Nat) (zs : List Nat) (z : Int) (n : Nat) (w : World) (hs : SignOf b z) (h : Limbs w A c zs z.natAbs) (hl : zs.length ≤ 1000000) (hz : z.natAbs ≤ 1) (hn : n ≤ 9223372036854775807) :
    Calls Try.prog 94 #[.agg #[.bool b, .slice A zs.length c], .int .i64 (n : Int)] w fun e w' => IsInt w w' (z ^ n) e := by
  rcases Nat.eq_zero_or_pos n with rfl | hpos
  · rw [Int.pow_zero]
    exact unit_one_all b A c zs 0 w (.inl rfl) hn
  · cases b with
    | false =>
      have h0 : z = 0 ∨ z = 1 := by unfold SignOf at hs; simp at hs; omega
      have e : z ^ n = z := by
        rcases h0 with rfl | rfl
        · exact Int.zero_pow (by omega)
        · exact Int.one_pow
      rw [e]
      exact unit_self_false A c zs z n w hs h hl hpos
    | true =>
      have h0 : z = -1 := by unfold SignOf at hs; simp at hs; omega
      subst h0
      by_cases ho : n % 2 = 1
      · rw [neg_one_odd ho]
        exact unit_self_true A c zs (-1) n w hs h hl ho
      · rw [neg_one_even (by omega)]
        exact unit_one_all true A c zs n w (.inr ⟨rfl, by omega⟩) hn

set_option maxRecDepth 100000 in
set_option maxHeartbeats 1000000 in
theorem power_unit_all (b : Bool) (A : Option Addr) (c : Nat) (zs : List Nat) (z : Int) (n : Nat) (w : World) (hs : SignOf b z) (h : Limbs w A c zs z.natAbs) (hl : zs.length ≤ 300000) (hz : z.natAbs ≤ 1) (hn : n ≤ 9223372036854775807) :
    Calls Try.prog 46 #[.agg #[.bool b, .slice A zs.length c], .int .i64 (n : Int)] w fun e w' => IsIE w w' (z ^ n) 0 e := by
  have hb0 := begun1_below w (.bool b) (.slice A zs.length c) 28
  have hT := begun1_x w (.bool b) (.slice A zs.length c) 28
  have hR := begun1_r w (.bool b) (.slice A zs.length c) 28
  have hsz0 := begun1_size w (.bool b) (.slice A zs.length c) 28
  obtain ⟨W, hW⟩ : ∃ W, begun1 w (.bool b) (.slice A zs.length c) 28 = W := ⟨_, rfl⟩
  rw [hW] at hb0 hT hR hsz0
  unfold begun1 at hW
  have hx0 := h.below hb0
  have hsz : w.heap.size + 2 ≤ W.heap.size := by omega
  have hord : ordOf z.natAbs 1 ≤ 0 := by unfold ordOf; split; omega; split; omega; omega
  obtain ⟨g, hg⟩ : ∃ g, ordOf z.natAbs 1 = g := ⟨_, rfl⟩
  rw [hg] at hord
  have H := Lib.hid (And.intro hb0 (And.intro hR (And.intro hT (And.intro hW (And.intro hx0 (And.intro hs (And.intro hz hg)))))))
  have hn0 : (0 : Int) ≤ (n : Int) := Int.natCast_nonneg _
  obtain ⟨px0, px1⟩ := id H.out.2.2.1
  clear hb0 hT hR hsz0 hW hx0 h hs hz hg
  go_enter Try.func46, Try.ntmps46
  go_upto_region 1 with fail
  rw [H.out.2.2.2.1]
  go_wp2_with fail
  go_region_held3 (fun w' => w'.cell? ⟨w.heap.size, 1, none⟩ = some (.slice A zs.length c))
    (((try dsimp only); (repeat' apply And.intro) <;> (first | (with_reducible assumption) | go_keep)))
    ((first | (go_at_call 71; refine (word_any 1 _ (by decide)).mono ?_; rintro e w2 ⟨A2, c2, p2, rfl, hl2, hb2⟩; have k2 := H.out.2.2.1.step hb2 rfl (by omega); have r2 := H.out.2.1.step hb2 rfl (by omega); have x2 := H.out.2.2.2.2.1.step hb2 rfl; have b2 := below_then H.out.1.drew hb2; have s2 : w.heap.size + 2 ≤ w2.heap.size := Nat.le_trans hsz hb2.size; obtain ⟨qx0, qx1⟩ := id k2) | (go_at_call 84; go_loud (refine (compare_limbs g (by exact x2) (by exact hl2) (by omega) H.out.2.2.2.2.2.2.2).mono ?_); rintro e w' ⟨⟨dn, rfl⟩, rfl⟩)))
  have k3 : Two (w2.drewN dn) w.heap.size (.bool b) (.slice A zs.length c) := k2
  have r3 : Res (w2.drewN dn) (w.heap.size + 1) := r2
  have x3 : Limbs (w2.drewN dn) A c zs z.natAbs := x2
  have b3 : Below w.heap.size w (w2.drewN dn) := ⟨b2.os, b2.tape, b2.output, b2.size, b2.block⟩
  have s3 : w.heap.size + 2 ≤ (w2.drewN dn).heap.size := s2
  obtain ⟨w3, hw3⟩ : ∃ x, w2.drewN dn = x := ⟨_, rfl⟩
  rw [hw3] at k3 r3 x3 b3 s3 ⊢
  clear hw3 k2 r2 x2 b2 s2 qx0 qx1 hl2 hb2 px0 px1
  obtain ⟨px0, px1⟩ := id k3
  have hup := unitPower_all b A c zs z n w3 H.out.2.2.2.2.2.1 x3 (by omega) H.out.2.2.2.2.2.2.1 hn
  have HU := Lib.hid (And.intro hup (And.intro r3 b3))
  clear hup x3 k3 r3 b3
  go_wp2_with fail
  refine HU.out.1.mono ?_
  rintro e w4 ⟨v4, rfl, ⟨b4, A4, c4, zs4, rfl, hsg4, hl4⟩, hb4⟩
  have r4 := HU.out.2.1.step hb4 rfl (by omega)
  obtain ⟨⟨hr0, hr1⟩, hf0, hf1⟩ := id r4
  clear px0 px1
  go_wp2
  have q := r4.1.stored (.bool b4) (.slice A4 zs4.length c4)
  obtain ⟨q0, q1⟩ := id q
  refine bodyPost_ret (v := .tuple #[.agg #[.bool b4, .slice A4 zs4.length c4], .int .i64 0]) (by simp [results, Try.results46, go_sem, q0, q1]) rfl ?_
  exact intE_stored r4 hsg4 hl4 (below_then HU.out.2.2 hb4) (by omega)

end Go.Proofs.Ytagocllbfbbneaa
