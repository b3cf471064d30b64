/- What Power of package integer does, whatever the length. -/
import Derived.Test.YtagmdeabneapaaaPowA
namespace Go.Proofs.Ytagmdeabneapaaa
open Go.RowKit
set_option linter.unusedSimpArgs false

theorem pow_fits2 {X n M : Nat} (hM : 40000 ≤ M) (hn : n ≤ 1000000) (h : n * (bl X - 1) ≤ 65536) : X ^ n < B32 ^ M := by
  have h1 : n * bl X ≤ 1100000 := by
    rcases Nat.eq_zero_or_pos (bl X) with e | e
    · rw [e]; omega
    · obtain ⟨b, hb⟩ : ∃ b, bl X = b + 1 := ⟨bl X - 1, by omega⟩
      rw [hb] at h ⊢
      rw [Nat.mul_add]
      simp only [Nat.add_sub_cancel] at h
      omega
  obtain ⟨K, hK⟩ : ∃ K, 1100000 = K := ⟨_, rfl⟩
  rw [hK] at h1
  rw [B32_pow]
  exact Nat.lt_of_lt_of_le (pow_lt_two (K := K) (bl_le.1 (Nat.le_refl (bl X))) h1 (by omega)) (Nat.pow_le_pow_right (by decide) (by omega))

set_option maxRecDepth 100000 in
set_option maxHeartbeats 1000000 in
theorem powerL_false (A : Option Addr) (c : Nat) (zs : List Nat) (z : Int) (n : Nat) (w : World) (hs : SignOf false z) (h : Limbs w A c zs z.natAbs) (hl : zs.length ≤ 300000) (hz : 1 < z.natAbs) (hpos : 0 < n) (hn : n ≤ 1000000) (hnb : n * (bl z.natAbs - 1) ≤ 65536) (hbo : bl (magOf (z ^ n)) ≤ 65536) :
    Calls Try.prog 46 #[.agg #[.bool false, .slice A zs.length c], .int .i64 (n : Int)] w fun e w' => IsIE w w' (z ^ n) 0 e := by
  have hb0 := begun1_below w (.bool false) (.slice A zs.length c) 28
  have hT := begun1_x w (.bool false) (.slice A zs.length c) 28
  have hR := begun1_r w (.bool false) (.slice A zs.length c) 28
  have hsz0 := begun1_size w (.bool false) (.slice A zs.length c) 28
  obtain ⟨W, hW⟩ : ∃ W, begun1 w (.bool false) (.slice A zs.length c) 28 = W := ⟨_, rfl⟩
  rw [hW] at hb0 hT hR hsz0
  unfold begun1 at hW
  have hx0 := h.below hb0
  have hsz : w.heap.size + 2 ≤ W.heap.size := by omega
  have hord : 0 < ordOf z.natAbs 1 := by rw [ord_gt hz]; decide
  obtain ⟨g, hg⟩ : ∃ g, ordOf z.natAbs 1 = g := ⟨_, rfl⟩
  rw [hg] at hord
  have hfit := And.intro (pow_fits2 (M := 300000) (by decide) hn hnb) hbo
  obtain ⟨bx, hbx⟩ : ∃ x, bl z.natAbs = x := ⟨_, rfl⟩
  rw [hbx] at hnb
  have hne : ((n : Int) == 0) = false := by rw [beq_eq_false_iff_ne]; omega
  have hne' : ¬ (n : Int) = 0 := by omega
  obtain ⟨d, hd⟩ : ∃ d, 65536 / n = d := ⟨_, rfl⟩
  have hdq : (65536 : Int) / (n : Int) = (d : Int) := by rw [← hd]; simp
  have hdt : (65536 : Int).tdiv (n : Int) = (d : Int) := by rw [Int.tdiv_eq_ediv_of_nonneg (by decide)]; exact hdq
  have hle : bx - 1 ≤ d := by rw [← hd]; exact (Nat.le_div_iff_mul_le hpos).2 (by rw [Nat.mul_comm]; exact hnb)
  have hbl : (bx : Int) - 1 ≤ (d : Int) := by omega
  have hbl2 : (bx : Int) ≤ 65537 := by have := Nat.div_le_self 65536 n; omega
  have hd2 : (d : Int) ≤ 65536 := by rw [← hd]; have := Nat.div_le_self 65536 n; omega
  have hposI : (0 : Int) < (n : Int) := by omega
  clear hd hle hnb hbo
  have H := Lib.hid (And.intro hb0 (And.intro hR (And.intro hT (And.intro hW (And.intro hx0 (And.intro hs (And.intro hz (And.intro hg (And.intro hbx hfit)))))))))
  have hn0 : (0 : Int) ≤ (n : Int) := Int.natCast_nonneg _
  obtain ⟨px0, px1⟩ := id H.out.2.2.1
  clear hb0 hT hR hsz0 hW hx0 h hs hz hg hbx hfit
  go_enter Try.func46, Try.ntmps46
  go_upto_region 1 with fail
  rw [H.out.2.2.2.1]
  go_wp2_with fail
  go_region_held3 (fun w' => w'.cell? ⟨w.heap.size, 1, none⟩ = some (.slice A zs.length c))
    (((try dsimp only); (repeat' apply And.intro) <;> (first | (with_reducible assumption) | go_keep)))
    ((first | (go_at_call 71; refine (word_any 1 _ (by decide)).mono ?_; rintro e w2 ⟨A2, c2, p2, rfl, hl2, hb2⟩; have k2 := H.out.2.2.1.step hb2 rfl (by omega); have r2 := H.out.2.1.step hb2 rfl (by omega); have x2 := H.out.2.2.2.2.1.step hb2 rfl; have b2 := below_then H.out.1.drew hb2; have s2 : w.heap.size + 2 ≤ w2.heap.size := Nat.le_trans hsz hb2.size; obtain ⟨qx0, qx1⟩ := id k2) | (go_at_call 84; go_loud (refine (compare_limbs g (by exact x2) (by exact hl2) (by omega) H.out.2.2.2.2.2.2.2.1).mono ?_); rintro e w' ⟨⟨dn, rfl⟩, rfl⟩)))
  have k3 : Two (w2.drewN dn) w.heap.size (.bool false) (.slice A zs.length c) := k2
  have r3 : Res (w2.drewN dn) (w.heap.size + 1) := r2
  have x3 : Limbs (w2.drewN dn) A c zs z.natAbs := x2
  have b3 : Below w.heap.size w (w2.drewN dn) := ⟨b2.os, b2.tape, b2.output, b2.size, b2.block⟩
  have s3 : w.heap.size + 2 ≤ (w2.drewN dn).heap.size := s2
  obtain ⟨w3, hw3⟩ : ∃ x, w2.drewN dn = x := ⟨_, rfl⟩
  rw [hw3] at k3 r3 x3 b3 s3 ⊢
  clear hw3 k2 r2 x2 b2 s2 qx0 qx1 hl2 hb2 px0 px1
  obtain ⟨px0, px1⟩ := id k3
  have hwd := width_any A c z.natAbs zs w3 x3 (by omega)
  rw [H.out.2.2.2.2.2.2.2.2.1] at hwd
  have hrs := raised_any A c zs z.natAbs n w3 x3 (by have := H.out.2.2.2.2.2.2.1; omega) hl (by omega) H.out.2.2.2.2.2.2.2.2.2.1
  have HW := Lib.hid (And.intro hwd (And.intro hrs (And.intro r3 (And.intro b3 k3))))
  clear hwd hrs r3 b3 x3 k3
  go_wp2_with fail
  refine HW.out.1.mono ?_
  rintro e w' ⟨rfl, rfl⟩
  go_wp2_with fail
  refine HW.out.2.1.mono ?_
  rintro e w5 ⟨A5, c5, p5, rfl, hl5, hb5⟩
  have k5 := HW.out.2.2.2.2.step hb5 rfl (by omega)
  have r5 := HW.out.2.2.1.step hb5 rfl (by omega)
  have b5 := below_then HW.out.2.2.2.1 hb5
  have s5 : w.heap.size + 2 ≤ w5.heap.size := Nat.le_trans s3 hb5.size
  have hn5 := hl5.len H.out.2.2.2.2.2.2.2.2.2.1
  have hsn := signed_to false A5 c5 p5 (z ^ n) w5 hl5.2.1 hl5.2.2.1 (by omega) hl5.1 (by rw [hl5.2.2.2.2]; exact pow_false H.out.2.2.2.2.2.1)
  have HS := Lib.hid (And.intro hsn (And.intro r5 (And.intro b5 k5)))
  clear hsn r5 b5 k5 hl5 hb5 HW hn5 px0 px1
  obtain ⟨px0, px1⟩ := id HS.out.2.2.2
  go_wp2_with fail
  refine HS.out.1.mono ?_
  rintro e w6 ⟨v6, rfl, ⟨b6, A6, c6, zs6, rfl, hsg6, hl6⟩, hb6⟩
  have k6 := HS.out.2.2.2.step hb6 rfl (by omega)
  have r6 := HS.out.2.1.step hb6 rfl (by omega)
  have b6' := below_then HS.out.2.2.1 hb6
  have s6 : w.heap.size + 2 ≤ w6.heap.size := Nat.le_trans s5 hb6.size
  have H6 := Lib.hid (And.intro k6 (And.intro r6 (And.intro b6' (And.intro hl6 hsg6))))
  clear k6 r6 b6' hl6 hb6 HS px0 px1 hsg6
  have hal : Below w6.heap.size w6 (w6.alloc (.cells #[.bool b6, .slice A6 zs6.length c6] 28)) := (Below.refl _ _).alloc (Nat.le_refl _) _
  have hi7 : IntAt (w6.alloc (.cells #[.bool b6, .slice A6 zs6.length c6] 28)) (.agg #[.bool b6, .slice A6 zs6.length c6]) (z ^ n) := ⟨b6, A6, c6, zs6, rfl, H6.out.2.2.2.2, H6.out.2.2.2.1.below hal⟩
  have hln := Length_any _ (z ^ n) 300000 _ hi7 (by decide) (by rw [Int.natAbs_pow]; exact H.out.2.2.2.2.2.2.2.2.2.1)
  have hbm := H.out.2.2.2.2.2.2.2.2.2.2
  obtain ⟨bz, hbz⟩ : ∃ x, bl (magOf (z ^ n)) = x := ⟨_, rfl⟩
  rw [hbz] at hln hbm
  have hbmI : (bz : Int) ≤ 65536 := by omega
  have r7 := H6.out.2.1.step hal rfl (by omega)
  have H7 := Lib.hid (And.intro hln (And.intro hal (And.intro r7 (And.intro hi7 (Two.new w6 (.bool b6) (.slice A6 zs6.length c6) 28)))))
  have s7 : w6.heap.size + 1 ≤ (w6.alloc (.cells #[.bool b6, .slice A6 zs6.length c6] 28)).heap.size := by rw [size_alloc]; omega
  clear hal hi7 hln hbm hbz r7
  go_wp2_with fail
  refine H7.out.1.mono ?_
  rintro e w8 ⟨rfl, hb8⟩
  have k8 := H7.out.2.2.2.2.step hb8 rfl (by omega)
  have r8 := H7.out.2.2.1.step hb8 rfl (by omega)
  have b8 := below_then (below_then H6.out.2.2.1 H7.out.2.1) hb8
  have l8 := (H6.out.2.2.2.1.below H7.out.2.1).below hb8
  have hg6 := H6.out.2.2.2.2
  clear s7
  obtain ⟨px0, px1⟩ := id k8
  obtain ⟨⟨hr0, hr1⟩, hf0, hf1⟩ := id r8
  go_wp2
  have q := r8.1.stored (.bool b6) (.slice A6 zs6.length c6)
  obtain ⟨q0, q1⟩ := id q
  refine bodyPost_ret (v := .tuple #[.agg #[.bool b6, .slice A6 zs6.length c6], .int .i64 0]) (by simp [results, Try.results46, go_sem, q0, q1]) rfl ?_
  exact intE_stored r8 hg6 l8 b8 (by omega)

set_option maxRecDepth 100000 in
set_option maxHeartbeats 1000000 in
theorem powerL_false_big (A : Option Addr) (c : Nat) (zs : List Nat) (z : Int) (n : Nat) (w : World) (hs : SignOf false z) (h : Limbs w A c zs z.natAbs) (hl : zs.length ≤ 300000) (hz : 1 < z.natAbs) (hpos : 0 < n) (hn : n ≤ 1000000) (hnb : n * (bl z.natAbs - 1) ≤ 65536) (hbo : 65536 < bl (magOf (z ^ n))) :
    Calls Try.prog 46 #[.agg #[.bool false, .slice A zs.length c], .int .i64 (n : Int)] w fun e w' => IsIE w w' 0 14 e := by
  have hb0 := begun1_below w (.bool false) (.slice A zs.length c) 28
  have hT := begun1_x w (.bool false) (.slice A zs.length c) 28
  have hR := begun1_r w (.bool false) (.slice A zs.length c) 28
  have hsz0 := begun1_size w (.bool false) (.slice A zs.length c) 28
  obtain ⟨W, hW⟩ : ∃ W, begun1 w (.bool false) (.slice A zs.length c) 28 = W := ⟨_, rfl⟩
  rw [hW] at hb0 hT hR hsz0
  unfold begun1 at hW
  have hx0 := h.below hb0
  have hsz : w.heap.size + 2 ≤ W.heap.size := by omega
  have hord : 0 < ordOf z.natAbs 1 := by rw [ord_gt hz]; decide
  obtain ⟨g, hg⟩ : ∃ g, ordOf z.natAbs 1 = g := ⟨_, rfl⟩
  rw [hg] at hord
  have hfit := And.intro (pow_fits2 (M := 300000) (by decide) hn hnb) hbo
  obtain ⟨bx, hbx⟩ : ∃ x, bl z.natAbs = x := ⟨_, rfl⟩
  rw [hbx] at hnb
  have hne : ((n : Int) == 0) = false := by rw [beq_eq_false_iff_ne]; omega
  have hne' : ¬ (n : Int) = 0 := by omega
  obtain ⟨d, hd⟩ : ∃ d, 65536 / n = d := ⟨_, rfl⟩
  have hdq : (65536 : Int) / (n : Int) = (d : Int) := by rw [← hd]; simp
  have hdt : (65536 : Int).tdiv (n : Int) = (d : Int) := by rw [Int.tdiv_eq_ediv_of_nonneg (by decide)]; exact hdq
  have hle : bx - 1 ≤ d := by rw [← hd]; exact (Nat.le_div_iff_mul_le hpos).2 (by rw [Nat.mul_comm]; exact hnb)
  have hbl : (bx : Int) - 1 ≤ (d : Int) := by omega
  have hbl2 : (bx : Int) ≤ 65537 := by have := Nat.div_le_self 65536 n; omega
  have hd2 : (d : Int) ≤ 65536 := by rw [← hd]; have := Nat.div_le_self 65536 n; omega
  have hposI : (0 : Int) < (n : Int) := by omega
  clear hd hle hnb hbo
  have H := Lib.hid (And.intro hb0 (And.intro hR (And.intro hT (And.intro hW (And.intro hx0 (And.intro hs (And.intro hz (And.intro hg (And.intro hbx hfit)))))))))
  have hn0 : (0 : Int) ≤ (n : Int) := Int.natCast_nonneg _
  obtain ⟨px0, px1⟩ := id H.out.2.2.1
  clear hb0 hT hR hsz0 hW hx0 h hs hz hg hbx hfit
  go_enter Try.func46, Try.ntmps46
  go_upto_region 1 with fail
  rw [H.out.2.2.2.1]
  go_wp2_with fail
  go_region_held3 (fun w' => w'.cell? ⟨w.heap.size, 1, none⟩ = some (.slice A zs.length c))
    (((try dsimp only); (repeat' apply And.intro) <;> (first | (with_reducible assumption) | go_keep)))
    ((first | (go_at_call 71; refine (word_any 1 _ (by decide)).mono ?_; rintro e w2 ⟨A2, c2, p2, rfl, hl2, hb2⟩; have k2 := H.out.2.2.1.step hb2 rfl (by omega); have r2 := H.out.2.1.step hb2 rfl (by omega); have x2 := H.out.2.2.2.2.1.step hb2 rfl; have b2 := below_then H.out.1.drew hb2; have s2 : w.heap.size + 2 ≤ w2.heap.size := Nat.le_trans hsz hb2.size; obtain ⟨qx0, qx1⟩ := id k2) | (go_at_call 84; go_loud (refine (compare_limbs g (by exact x2) (by exact hl2) (by omega) H.out.2.2.2.2.2.2.2.1).mono ?_); rintro e w' ⟨⟨dn, rfl⟩, rfl⟩)))
  have k3 : Two (w2.drewN dn) w.heap.size (.bool false) (.slice A zs.length c) := k2
  have r3 : Res (w2.drewN dn) (w.heap.size + 1) := r2
  have x3 : Limbs (w2.drewN dn) A c zs z.natAbs := x2
  have b3 : Below w.heap.size w (w2.drewN dn) := ⟨b2.os, b2.tape, b2.output, b2.size, b2.block⟩
  have s3 : w.heap.size + 2 ≤ (w2.drewN dn).heap.size := s2
  obtain ⟨w3, hw3⟩ : ∃ x, w2.drewN dn = x := ⟨_, rfl⟩
  rw [hw3] at k3 r3 x3 b3 s3 ⊢
  clear hw3 k2 r2 x2 b2 s2 qx0 qx1 hl2 hb2 px0 px1
  obtain ⟨px0, px1⟩ := id k3
  have hwd := width_any A c z.natAbs zs w3 x3 (by omega)
  rw [H.out.2.2.2.2.2.2.2.2.1] at hwd
  have hrs := raised_any A c zs z.natAbs n w3 x3 (by have := H.out.2.2.2.2.2.2.1; omega) hl (by omega) H.out.2.2.2.2.2.2.2.2.2.1
  have HW := Lib.hid (And.intro hwd (And.intro hrs (And.intro r3 (And.intro b3 k3))))
  clear hwd hrs r3 b3 x3 k3
  go_wp2_with fail
  refine HW.out.1.mono ?_
  rintro e w' ⟨rfl, rfl⟩
  go_wp2_with fail
  refine HW.out.2.1.mono ?_
  rintro e w5 ⟨A5, c5, p5, rfl, hl5, hb5⟩
  have k5 := HW.out.2.2.2.2.step hb5 rfl (by omega)
  have r5 := HW.out.2.2.1.step hb5 rfl (by omega)
  have b5 := below_then HW.out.2.2.2.1 hb5
  have s5 : w.heap.size + 2 ≤ w5.heap.size := Nat.le_trans s3 hb5.size
  have hn5 := hl5.len H.out.2.2.2.2.2.2.2.2.2.1
  have hsn := signed_to false A5 c5 p5 (z ^ n) w5 hl5.2.1 hl5.2.2.1 (by omega) hl5.1 (by rw [hl5.2.2.2.2]; exact pow_false H.out.2.2.2.2.2.1)
  have HS := Lib.hid (And.intro hsn (And.intro r5 (And.intro b5 k5)))
  clear hsn r5 b5 k5 hl5 hb5 HW hn5 px0 px1
  obtain ⟨px0, px1⟩ := id HS.out.2.2.2
  go_wp2_with fail
  refine HS.out.1.mono ?_
  rintro e w6 ⟨v6, rfl, ⟨b6, A6, c6, zs6, rfl, hsg6, hl6⟩, hb6⟩
  have k6 := HS.out.2.2.2.step hb6 rfl (by omega)
  have r6 := HS.out.2.1.step hb6 rfl (by omega)
  have b6' := below_then HS.out.2.2.1 hb6
  have s6 : w.heap.size + 2 ≤ w6.heap.size := Nat.le_trans s5 hb6.size
  have H6 := Lib.hid (And.intro k6 (And.intro r6 (And.intro b6' (And.intro hl6 hsg6))))
  clear k6 r6 b6' hl6 hb6 HS px0 px1 hsg6
  have hal : Below w6.heap.size w6 (w6.alloc (.cells #[.bool b6, .slice A6 zs6.length c6] 28)) := (Below.refl _ _).alloc (Nat.le_refl _) _
  have hi7 : IntAt (w6.alloc (.cells #[.bool b6, .slice A6 zs6.length c6] 28)) (.agg #[.bool b6, .slice A6 zs6.length c6]) (z ^ n) := ⟨b6, A6, c6, zs6, rfl, H6.out.2.2.2.2, H6.out.2.2.2.1.below hal⟩
  have hln := Length_any _ (z ^ n) 300000 _ hi7 (by decide) (by rw [Int.natAbs_pow]; exact H.out.2.2.2.2.2.2.2.2.2.1)
  have hbm := H.out.2.2.2.2.2.2.2.2.2.2
  obtain ⟨bz, hbz⟩ : ∃ x, bl (magOf (z ^ n)) = x := ⟨_, rfl⟩
  rw [hbz] at hln hbm
  have hbmI : (65536 : Int) < (bz : Int) := by omega
  have r7 := H6.out.2.1.step hal rfl (by omega)
  have H7 := Lib.hid (And.intro hln (And.intro hal (And.intro r7 (And.intro hi7 (Two.new w6 (.bool b6) (.slice A6 zs6.length c6) 28)))))
  have s7 : w6.heap.size + 1 ≤ (w6.alloc (.cells #[.bool b6, .slice A6 zs6.length c6] 28)).heap.size := by rw [size_alloc]; omega
  clear hal hi7 hln hbm hbz r7
  go_wp2_with fail
  refine H7.out.1.mono ?_
  rintro e w8 ⟨rfl, hb8⟩
  have k8 := H7.out.2.2.2.2.step hb8 rfl (by omega)
  have r8 := H7.out.2.2.1.step hb8 rfl (by omega)
  have b8 := below_then (below_then H6.out.2.2.1 H7.out.2.1) hb8
  clear s7
  obtain ⟨px0, px1⟩ := id k8
  obtain ⟨⟨hr0, hr1⟩, hf0, hf1⟩ := id r8
  go_wp2
  have q := r8.1.stored (.bool false) (.slice none 0 0)
  obtain ⟨q0, q1⟩ := id q
  refine bodyPost_ret (v := .tuple #[.agg #[.bool false, .slice none 0 0], .int .i64 14]) (by simp [results, Try.results46, go_sem, hr0, hr1, q0, q1]) rfl ?_
  exact intE_stored (zs := []) r8 (by simp [SignOf]) ⟨Nat.le_refl _, Nums.nil _ _ _, Lm.Ok.nil _, Lm.Top.nil, rfl⟩ b8 (by omega)

set_option maxRecDepth 100000 in
set_option maxHeartbeats 1000000 in
theorem powerL_odd (A : Option Addr) (c : Nat) (zs : List Nat) (z : Int) (n : Nat) (w : World) (hs : SignOf true z) (h : Limbs w A c zs z.natAbs) (hl : zs.length ≤ 300000) (hz : 1 < z.natAbs) (hpos : 0 < n) (hn : n ≤ 1000000) (hnb : n * (bl z.natAbs - 1) ≤ 65536) (ho : n % 2 = 1) (hbo : bl (magOf (z ^ n)) ≤ 65536) :
    Calls Try.prog 46 #[.agg #[.bool true, .slice A zs.length c], .int .i64 (n : Int)] w fun e w' => IsIE w w' (z ^ n) 0 e := by
  have hb0 := begun1_below w (.bool true) (.slice A zs.length c) 28
  have hT := begun1_x w (.bool true) (.slice A zs.length c) 28
  have hR := begun1_r w (.bool true) (.slice A zs.length c) 28
  have hsz0 := begun1_size w (.bool true) (.slice A zs.length c) 28
  obtain ⟨W, hW⟩ : ∃ W, begun1 w (.bool true) (.slice A zs.length c) 28 = W := ⟨_, rfl⟩
  rw [hW] at hb0 hT hR hsz0
  unfold begun1 at hW
  have hx0 := h.below hb0
  have hsz : w.heap.size + 2 ≤ W.heap.size := by omega
  have hord : 0 < ordOf z.natAbs 1 := by rw [ord_gt hz]; decide
  obtain ⟨g, hg⟩ : ∃ g, ordOf z.natAbs 1 = g := ⟨_, rfl⟩
  rw [hg] at hord
  have hfit := And.intro (pow_fits2 (M := 300000) (by decide) hn hnb) hbo
  obtain ⟨bx, hbx⟩ : ∃ x, bl z.natAbs = x := ⟨_, rfl⟩
  rw [hbx] at hnb
  have hne : ((n : Int) == 0) = false := by rw [beq_eq_false_iff_ne]; omega
  have hne' : ¬ (n : Int) = 0 := by omega
  obtain ⟨d, hd⟩ : ∃ d, 65536 / n = d := ⟨_, rfl⟩
  have hdq : (65536 : Int) / (n : Int) = (d : Int) := by rw [← hd]; simp
  have hdt : (65536 : Int).tdiv (n : Int) = (d : Int) := by rw [Int.tdiv_eq_ediv_of_nonneg (by decide)]; exact hdq
  have hle : bx - 1 ≤ d := by rw [← hd]; exact (Nat.le_div_iff_mul_le hpos).2 (by rw [Nat.mul_comm]; exact hnb)
  have hbl : (bx : Int) - 1 ≤ (d : Int) := by omega
  have hbl2 : (bx : Int) ≤ 65537 := by have := Nat.div_le_self 65536 n; omega
  have hd2 : (d : Int) ≤ 65536 := by rw [← hd]; have := Nat.div_le_self 65536 n; omega
  have hposI : (0 : Int) < (n : Int) := by omega
  clear hd hle hnb hbo
  have hbit : (bits .and .i64 (n : Int) 1 == 1) = true := by rw [i64_and1, beq_iff_eq]; omega
  have H := Lib.hid (And.intro hb0 (And.intro hR (And.intro hT (And.intro hW (And.intro hx0 (And.intro hs (And.intro hz (And.intro hg (And.intro hbx hfit)))))))))
  have hn0 : (0 : Int) ≤ (n : Int) := Int.natCast_nonneg _
  obtain ⟨px0, px1⟩ := id H.out.2.2.1
  clear hb0 hT hR hsz0 hW hx0 h hs hz hg hbx hfit
  go_enter Try.func46, Try.ntmps46
  go_upto_region 1 with fail
  rw [H.out.2.2.2.1]
  go_wp2_with fail
  go_region_held3 (fun w' => w'.cell? ⟨w.heap.size, 1, none⟩ = some (.slice A zs.length c))
    (((try dsimp only); (repeat' apply And.intro) <;> (first | (with_reducible assumption) | go_keep)))
    ((first | (go_at_call 71; refine (word_any 1 _ (by decide)).mono ?_; rintro e w2 ⟨A2, c2, p2, rfl, hl2, hb2⟩; have k2 := H.out.2.2.1.step hb2 rfl (by omega); have r2 := H.out.2.1.step hb2 rfl (by omega); have x2 := H.out.2.2.2.2.1.step hb2 rfl; have b2 := below_then H.out.1.drew hb2; have s2 : w.heap.size + 2 ≤ w2.heap.size := Nat.le_trans hsz hb2.size; obtain ⟨qx0, qx1⟩ := id k2) | (go_at_call 84; go_loud (refine (compare_limbs g (by exact x2) (by exact hl2) (by omega) H.out.2.2.2.2.2.2.2.1).mono ?_); rintro e w' ⟨⟨dn, rfl⟩, rfl⟩)))
  have k3 : Two (w2.drewN dn) w.heap.size (.bool true) (.slice A zs.length c) := k2
  have r3 : Res (w2.drewN dn) (w.heap.size + 1) := r2
  have x3 : Limbs (w2.drewN dn) A c zs z.natAbs := x2
  have b3 : Below w.heap.size w (w2.drewN dn) := ⟨b2.os, b2.tape, b2.output, b2.size, b2.block⟩
  have s3 : w.heap.size + 2 ≤ (w2.drewN dn).heap.size := s2
  obtain ⟨w3, hw3⟩ : ∃ x, w2.drewN dn = x := ⟨_, rfl⟩
  rw [hw3] at k3 r3 x3 b3 s3 ⊢
  clear hw3 k2 r2 x2 b2 s2 qx0 qx1 hl2 hb2 px0 px1
  obtain ⟨px0, px1⟩ := id k3
  have hwd := width_any A c z.natAbs zs w3 x3 (by omega)
  rw [H.out.2.2.2.2.2.2.2.2.1] at hwd
  have hrs := raised_any A c zs z.natAbs n w3 x3 (by have := H.out.2.2.2.2.2.2.1; omega) hl (by omega) H.out.2.2.2.2.2.2.2.2.2.1
  have HW := Lib.hid (And.intro hwd (And.intro hrs (And.intro r3 (And.intro b3 k3))))
  clear hwd hrs r3 b3 x3 k3
  go_wp2_with fail
  refine HW.out.1.mono ?_
  rintro e w' ⟨rfl, rfl⟩
  go_wp2_with fail
  refine HW.out.2.1.mono ?_
  rintro e w5 ⟨A5, c5, p5, rfl, hl5, hb5⟩
  have k5 := HW.out.2.2.2.2.step hb5 rfl (by omega)
  have r5 := HW.out.2.2.1.step hb5 rfl (by omega)
  have b5 := below_then HW.out.2.2.2.1 hb5
  have s5 : w.heap.size + 2 ≤ w5.heap.size := Nat.le_trans s3 hb5.size
  have hn5 := hl5.len H.out.2.2.2.2.2.2.2.2.2.1
  have hsn := signed_to true A5 c5 p5 (z ^ n) w5 hl5.2.1 hl5.2.2.1 (by omega) hl5.1 (by rw [hl5.2.2.2.2]; exact pow_odd H.out.2.2.2.2.2.1 ho)
  have HS := Lib.hid (And.intro hsn (And.intro r5 (And.intro b5 k5)))
  clear hsn r5 b5 k5 hl5 hb5 HW hn5 px0 px1
  obtain ⟨px0, px1⟩ := id HS.out.2.2.2
  go_wp2_with fail
  refine HS.out.1.mono ?_
  rintro e w6 ⟨v6, rfl, ⟨b6, A6, c6, zs6, rfl, hsg6, hl6⟩, hb6⟩
  have k6 := HS.out.2.2.2.step hb6 rfl (by omega)
  have r6 := HS.out.2.1.step hb6 rfl (by omega)
  have b6' := below_then HS.out.2.2.1 hb6
  have s6 : w.heap.size + 2 ≤ w6.heap.size := Nat.le_trans s5 hb6.size
  have H6 := Lib.hid (And.intro k6 (And.intro r6 (And.intro b6' (And.intro hl6 hsg6))))
  clear k6 r6 b6' hl6 hb6 HS px0 px1 hsg6
  have hal : Below w6.heap.size w6 (w6.alloc (.cells #[.bool b6, .slice A6 zs6.length c6] 28)) := (Below.refl _ _).alloc (Nat.le_refl _) _
  have hi7 : IntAt (w6.alloc (.cells #[.bool b6, .slice A6 zs6.length c6] 28)) (.agg #[.bool b6, .slice A6 zs6.length c6]) (z ^ n) := ⟨b6, A6, c6, zs6, rfl, H6.out.2.2.2.2, H6.out.2.2.2.1.below hal⟩
  have hln := Length_any _ (z ^ n) 300000 _ hi7 (by decide) (by rw [Int.natAbs_pow]; exact H.out.2.2.2.2.2.2.2.2.2.1)
  have hbm := H.out.2.2.2.2.2.2.2.2.2.2
  obtain ⟨bz, hbz⟩ : ∃ x, bl (magOf (z ^ n)) = x := ⟨_, rfl⟩
  rw [hbz] at hln hbm
  have hbmI : (bz : Int) ≤ 65536 := by omega
  have r7 := H6.out.2.1.step hal rfl (by omega)
  have H7 := Lib.hid (And.intro hln (And.intro hal (And.intro r7 (And.intro hi7 (Two.new w6 (.bool b6) (.slice A6 zs6.length c6) 28)))))
  have s7 : w6.heap.size + 1 ≤ (w6.alloc (.cells #[.bool b6, .slice A6 zs6.length c6] 28)).heap.size := by rw [size_alloc]; omega
  clear hal hi7 hln hbm hbz r7
  go_wp2_with fail
  refine H7.out.1.mono ?_
  rintro e w8 ⟨rfl, hb8⟩
  have k8 := H7.out.2.2.2.2.step hb8 rfl (by omega)
  have r8 := H7.out.2.2.1.step hb8 rfl (by omega)
  have b8 := below_then (below_then H6.out.2.2.1 H7.out.2.1) hb8
  have l8 := (H6.out.2.2.2.1.below H7.out.2.1).below hb8
  have hg6 := H6.out.2.2.2.2
  clear s7
  obtain ⟨px0, px1⟩ := id k8
  obtain ⟨⟨hr0, hr1⟩, hf0, hf1⟩ := id r8
  go_wp2
  have q := r8.1.stored (.bool b6) (.slice A6 zs6.length c6)
  obtain ⟨q0, q1⟩ := id q
  refine bodyPost_ret (v := .tuple #[.agg #[.bool b6, .slice A6 zs6.length c6], .int .i64 0]) (by simp [results, Try.results46, go_sem, q0, q1]) rfl ?_
  exact intE_stored r8 hg6 l8 b8 (by omega)

set_option maxRecDepth 100000 in
set_option maxHeartbeats 1000000 in
theorem powerL_odd_big (A : Option Addr) (c : Nat) (zs : List Nat) (z : Int) (n : Nat) (w : World) (hs : SignOf true z) (h : Limbs w A c zs z.natAbs) (hl : zs.length ≤ 300000) (hz : 1 < z.natAbs) (hpos : 0 < n) (hn : n ≤ 1000000) (hnb : n * (bl z.natAbs - 1) ≤ 65536) (ho : n % 2 = 1) (hbo : 65536 < bl (magOf (z ^ n))) :
    Calls Try.prog 46 #[.agg #[.bool true, .slice A zs.length c], .int .i64 (n : Int)] w fun e w' => IsIE w w' 0 14 e := by
  have hb0 := begun1_below w (.bool true) (.slice A zs.length c) 28
  have hT := begun1_x w (.bool true) (.slice A zs.length c) 28
  have hR := begun1_r w (.bool true) (.slice A zs.length c) 28
  have hsz0 := begun1_size w (.bool true) (.slice A zs.length c) 28
  obtain ⟨W, hW⟩ : ∃ W, begun1 w (.bool true) (.slice A zs.length c) 28 = W := ⟨_, rfl⟩
  rw [hW] at hb0 hT hR hsz0
  unfold begun1 at hW
  have hx0 := h.below hb0
  have hsz : w.heap.size + 2 ≤ W.heap.size := by omega
  have hord : 0 < ordOf z.natAbs 1 := by rw [ord_gt hz]; decide
  obtain ⟨g, hg⟩ : ∃ g, ordOf z.natAbs 1 = g := ⟨_, rfl⟩
  rw [hg] at hord
  have hfit := And.intro (pow_fits2 (M := 300000) (by decide) hn hnb) hbo
  obtain ⟨bx, hbx⟩ : ∃ x, bl z.natAbs = x := ⟨_, rfl⟩
  rw [hbx] at hnb
  have hne : ((n : Int) == 0) = false := by rw [beq_eq_false_iff_ne]; omega
  have hne' : ¬ (n : Int) = 0 := by omega
  obtain ⟨d, hd⟩ : ∃ d, 65536 / n = d := ⟨_, rfl⟩
  have hdq : (65536 : Int) / (n : Int) = (d : Int) := by rw [← hd]; simp
  have hdt : (65536 : Int).tdiv (n : Int) = (d : Int) := by rw [Int.tdiv_eq_ediv_of_nonneg (by decide)]; exact hdq
  have hle : bx - 1 ≤ d := by rw [← hd]; exact (Nat.le_div_iff_mul_le hpos).2 (by rw [Nat.mul_comm]; exact hnb)
  have hbl : (bx : Int) - 1 ≤ (d : Int) := by omega
  have hbl2 : (bx : Int) ≤ 65537 := by have := Nat.div_le_self 65536 n; omega
  have hd2 : (d : Int) ≤ 65536 := by rw [← hd]; have := Nat.div_le_self 65536 n; omega
  have hposI : (0 : Int) < (n : Int) := by omega
  clear hd hle hnb hbo
  have hbit : (bits .and .i64 (n : Int) 1 == 1) = true := by rw [i64_and1, beq_iff_eq]; omega
  have H := Lib.hid (And.intro hb0 (And.intro hR (And.intro hT (And.intro hW (And.intro hx0 (And.intro hs (And.intro hz (And.intro hg (And.intro hbx hfit)))))))))
  have hn0 : (0 : Int) ≤ (n : Int) := Int.natCast_nonneg _
  obtain ⟨px0, px1⟩ := id H.out.2.2.1
  clear hb0 hT hR hsz0 hW hx0 h hs hz hg hbx hfit
  go_enter Try.func46, Try.ntmps46
  go_upto_region 1 with fail
  rw [H.out.2.2.2.1]
  go_wp2_with fail
  go_region_held3 (fun w' => w'.cell? ⟨w.heap.size, 1, none⟩ = some (.slice A zs.length c))
    (((try dsimp only); (repeat' apply And.intro) <;> (first | (with_reducible assumption) | go_keep)))
    ((first | (go_at_call 71; refine (word_any 1 _ (by decide)).mono ?_; rintro e w2 ⟨A2, c2, p2, rfl, hl2, hb2⟩; have k2 := H.out.2.2.1.step hb2 rfl (by omega); have r2 := H.out.2.1.step hb2 rfl (by omega); have x2 := H.out.2.2.2.2.1.step hb2 rfl; have b2 := below_then H.out.1.drew hb2; have s2 : w.heap.size + 2 ≤ w2.heap.size := Nat.le_trans hsz hb2.size; obtain ⟨qx0, qx1⟩ := id k2) | (go_at_call 84; go_loud (refine (compare_limbs g (by exact x2) (by exact hl2) (by omega) H.out.2.2.2.2.2.2.2.1).mono ?_); rintro e w' ⟨⟨dn, rfl⟩, rfl⟩)))
  have k3 : Two (w2.drewN dn) w.heap.size (.bool true) (.slice A zs.length c) := k2
  have r3 : Res (w2.drewN dn) (w.heap.size + 1) := r2
  have x3 : Limbs (w2.drewN dn) A c zs z.natAbs := x2
  have b3 : Below w.heap.size w (w2.drewN dn) := ⟨b2.os, b2.tape, b2.output, b2.size, b2.block⟩
  have s3 : w.heap.size + 2 ≤ (w2.drewN dn).heap.size := s2
  obtain ⟨w3, hw3⟩ : ∃ x, w2.drewN dn = x := ⟨_, rfl⟩
  rw [hw3] at k3 r3 x3 b3 s3 ⊢
  clear hw3 k2 r2 x2 b2 s2 qx0 qx1 hl2 hb2 px0 px1
  obtain ⟨px0, px1⟩ := id k3
  have hwd := width_any A c z.natAbs zs w3 x3 (by omega)
  rw [H.out.2.2.2.2.2.2.2.2.1] at hwd
  have hrs := raised_any A c zs z.natAbs n w3 x3 (by have := H.out.2.2.2.2.2.2.1; omega) hl (by omega) H.out.2.2.2.2.2.2.2.2.2.1
  have HW := Lib.hid (And.intro hwd (And.intro hrs (And.intro r3 (And.intro b3 k3))))
  clear hwd hrs r3 b3 x3 k3
  go_wp2_with fail
  refine HW.out.1.mono ?_
  rintro e w' ⟨rfl, rfl⟩
  go_wp2_with fail
  refine HW.out.2.1.mono ?_
  rintro e w5 ⟨A5, c5, p5, rfl, hl5, hb5⟩
  have k5 := HW.out.2.2.2.2.step hb5 rfl (by omega)
  have r5 := HW.out.2.2.1.step hb5 rfl (by omega)
  have b5 := below_then HW.out.2.2.2.1 hb5
  have s5 : w.heap.size + 2 ≤ w5.heap.size := Nat.le_trans s3 hb5.size
  have hn5 := hl5.len H.out.2.2.2.2.2.2.2.2.2.1
  have hsn := signed_to true A5 c5 p5 (z ^ n) w5 hl5.2.1 hl5.2.2.1 (by omega) hl5.1 (by rw [hl5.2.2.2.2]; exact pow_odd H.out.2.2.2.2.2.1 ho)
  have HS := Lib.hid (And.intro hsn (And.intro r5 (And.intro b5 k5)))
  clear hsn r5 b5 k5 hl5 hb5 HW hn5 px0 px1
  obtain ⟨px0, px1⟩ := id HS.out.2.2.2
  go_wp2_with fail
  refine HS.out.1.mono ?_
  rintro e w6 ⟨v6, rfl, ⟨b6, A6, c6, zs6, rfl, hsg6, hl6⟩, hb6⟩
  have k6 := HS.out.2.2.2.step hb6 rfl (by omega)
  have r6 := HS.out.2.1.step hb6 rfl (by omega)
  have b6' := below_then HS.out.2.2.1 hb6
  have s6 : w.heap.size + 2 ≤ w6.heap.size := Nat.le_trans s5 hb6.size
  have H6 := Lib.hid (And.intro k6 (And.intro r6 (And.intro b6' (And.intro hl6 hsg6))))
  clear k6 r6 b6' hl6 hb6 HS px0 px1 hsg6
  have hal : Below w6.heap.size w6 (w6.alloc (.cells #[.bool b6, .slice A6 zs6.length c6] 28)) := (Below.refl _ _).alloc (Nat.le_refl _) _
  have hi7 : IntAt (w6.alloc (.cells #[.bool b6, .slice A6 zs6.length c6] 28)) (.agg #[.bool b6, .slice A6 zs6.length c6]) (z ^ n) := ⟨b6, A6, c6, zs6, rfl, H6.out.2.2.2.2, H6.out.2.2.2.1.below hal⟩
  have hln := Length_any _ (z ^ n) 300000 _ hi7 (by decide) (by rw [Int.natAbs_pow]; exact H.out.2.2.2.2.2.2.2.2.2.1)
  have hbm := H.out.2.2.2.2.2.2.2.2.2.2
  obtain ⟨bz, hbz⟩ : ∃ x, bl (magOf (z ^ n)) = x := ⟨_, rfl⟩
  rw [hbz] at hln hbm
  have hbmI : (65536 : Int) < (bz : Int) := by omega
  have r7 := H6.out.2.1.step hal rfl (by omega)
  have H7 := Lib.hid (And.intro hln (And.intro hal (And.intro r7 (And.intro hi7 (Two.new w6 (.bool b6) (.slice A6 zs6.length c6) 28)))))
  have s7 : w6.heap.size + 1 ≤ (w6.alloc (.cells #[.bool b6, .slice A6 zs6.length c6] 28)).heap.size := by rw [size_alloc]; omega
  clear hal hi7 hln hbm hbz r7
  go_wp2_with fail
  refine H7.out.1.mono ?_
  rintro e w8 ⟨rfl, hb8⟩
  have k8 := H7.out.2.2.2.2.step hb8 rfl (by omega)
  have r8 := H7.out.2.2.1.step hb8 rfl (by omega)
  have b8 := below_then (below_then H6.out.2.2.1 H7.out.2.1) hb8
  clear s7
  obtain ⟨px0, px1⟩ := id k8
  obtain ⟨⟨hr0, hr1⟩, hf0, hf1⟩ := id r8
  go_wp2
  have q := r8.1.stored (.bool false) (.slice none 0 0)
  obtain ⟨q0, q1⟩ := id q
  refine bodyPost_ret (v := .tuple #[.agg #[.bool false, .slice none 0 0], .int .i64 14]) (by simp [results, Try.results46, go_sem, hr0, hr1, q0, q1]) rfl ?_
  exact intE_stored (zs := []) r8 (by simp [SignOf]) ⟨Nat.le_refl _, Nums.nil _ _ _, Lm.Ok.nil _, Lm.Top.nil, rfl⟩ b8 (by omega)

set_option maxRecDepth 100000 in
set_option maxHeartbeats 1000000 in
theorem powerL_even (A : Option Addr) (c : Nat) (zs : List Nat) (z : Int) (n : Nat) (w : World) (hs : SignOf true z) (h : Limbs w A c zs z.natAbs) (hl : zs.length ≤ 300000) (hz : 1 < z.natAbs) (hpos : 0 < n) (hn : n ≤ 1000000) (hnb : n * (bl z.natAbs - 1) ≤ 65536) (ho : n % 2 = 0) (hbo : bl (magOf (z ^ n)) ≤ 65536) :
    Calls Try.prog 46 #[.agg #[.bool true, .slice A zs.length c], .int .i64 (n : Int)] w fun e w' => IsIE w w' (z ^ n) 0 e := by
  have hb0 := begun1_below w (.bool true) (.slice A zs.length c) 28
  have hT := begun1_x w (.bool true) (.slice A zs.length c) 28
  have hR := begun1_r w (.bool true) (.slice A zs.length c) 28
  have hsz0 := begun1_size w (.bool true) (.slice A zs.length c) 28
  obtain ⟨W, hW⟩ : ∃ W, begun1 w (.bool true) (.slice A zs.length c) 28 = W := ⟨_, rfl⟩
  rw [hW] at hb0 hT hR hsz0
  unfold begun1 at hW
  have hx0 := h.below hb0
  have hsz : w.heap.size + 2 ≤ W.heap.size := by omega
  have hord : 0 < ordOf z.natAbs 1 := by rw [ord_gt hz]; decide
  obtain ⟨g, hg⟩ : ∃ g, ordOf z.natAbs 1 = g := ⟨_, rfl⟩
  rw [hg] at hord
  have hfit := And.intro (pow_fits2 (M := 300000) (by decide) hn hnb) hbo
  obtain ⟨bx, hbx⟩ : ∃ x, bl z.natAbs = x := ⟨_, rfl⟩
  rw [hbx] at hnb
  have hne : ((n : Int) == 0) = false := by rw [beq_eq_false_iff_ne]; omega
  have hne' : ¬ (n : Int) = 0 := by omega
  obtain ⟨d, hd⟩ : ∃ d, 65536 / n = d := ⟨_, rfl⟩
  have hdq : (65536 : Int) / (n : Int) = (d : Int) := by rw [← hd]; simp
  have hdt : (65536 : Int).tdiv (n : Int) = (d : Int) := by rw [Int.tdiv_eq_ediv_of_nonneg (by decide)]; exact hdq
  have hle : bx - 1 ≤ d := by rw [← hd]; exact (Nat.le_div_iff_mul_le hpos).2 (by rw [Nat.mul_comm]; exact hnb)
  have hbl : (bx : Int) - 1 ≤ (d : Int) := by omega
  have hbl2 : (bx : Int) ≤ 65537 := by have := Nat.div_le_self 65536 n; omega
  have hd2 : (d : Int) ≤ 65536 := by rw [← hd]; have := Nat.div_le_self 65536 n; omega
  have hposI : (0 : Int) < (n : Int) := by omega
  clear hd hle hnb hbo
  have hbit : (bits .and .i64 (n : Int) 1 == 1) = false := by rw [i64_and1, beq_eq_false_iff_ne]; omega
  have H := Lib.hid (And.intro hb0 (And.intro hR (And.intro hT (And.intro hW (And.intro hx0 (And.intro hs (And.intro hz (And.intro hg (And.intro hbx hfit)))))))))
  have hn0 : (0 : Int) ≤ (n : Int) := Int.natCast_nonneg _
  obtain ⟨px0, px1⟩ := id H.out.2.2.1
  clear hb0 hT hR hsz0 hW hx0 h hs hz hg hbx hfit
  go_enter Try.func46, Try.ntmps46
  go_upto_region 1 with fail
  rw [H.out.2.2.2.1]
  go_wp2_with fail
  go_region_held3 (fun w' => w'.cell? ⟨w.heap.size, 1, none⟩ = some (.slice A zs.length c))
    (((try dsimp only); (repeat' apply And.intro) <;> (first | (with_reducible assumption) | go_keep)))
    ((first | (go_at_call 71; refine (word_any 1 _ (by decide)).mono ?_; rintro e w2 ⟨A2, c2, p2, rfl, hl2, hb2⟩; have k2 := H.out.2.2.1.step hb2 rfl (by omega); have r2 := H.out.2.1.step hb2 rfl (by omega); have x2 := H.out.2.2.2.2.1.step hb2 rfl; have b2 := below_then H.out.1.drew hb2; have s2 : w.heap.size + 2 ≤ w2.heap.size := Nat.le_trans hsz hb2.size; obtain ⟨qx0, qx1⟩ := id k2) | (go_at_call 84; go_loud (refine (compare_limbs g (by exact x2) (by exact hl2) (by omega) H.out.2.2.2.2.2.2.2.1).mono ?_); rintro e w' ⟨⟨dn, rfl⟩, rfl⟩)))
  have k3 : Two (w2.drewN dn) w.heap.size (.bool true) (.slice A zs.length c) := k2
  have r3 : Res (w2.drewN dn) (w.heap.size + 1) := r2
  have x3 : Limbs (w2.drewN dn) A c zs z.natAbs := x2
  have b3 : Below w.heap.size w (w2.drewN dn) := ⟨b2.os, b2.tape, b2.output, b2.size, b2.block⟩
  have s3 : w.heap.size + 2 ≤ (w2.drewN dn).heap.size := s2
  obtain ⟨w3, hw3⟩ : ∃ x, w2.drewN dn = x := ⟨_, rfl⟩
  rw [hw3] at k3 r3 x3 b3 s3 ⊢
  clear hw3 k2 r2 x2 b2 s2 qx0 qx1 hl2 hb2 px0 px1
  obtain ⟨px0, px1⟩ := id k3
  have hwd := width_any A c z.natAbs zs w3 x3 (by omega)
  rw [H.out.2.2.2.2.2.2.2.2.1] at hwd
  have hrs := raised_any A c zs z.natAbs n w3 x3 (by have := H.out.2.2.2.2.2.2.1; omega) hl (by omega) H.out.2.2.2.2.2.2.2.2.2.1
  have HW := Lib.hid (And.intro hwd (And.intro hrs (And.intro r3 (And.intro b3 k3))))
  clear hwd hrs r3 b3 x3 k3
  go_wp2_with fail
  refine HW.out.1.mono ?_
  rintro e w' ⟨rfl, rfl⟩
  go_wp2_with fail
  refine HW.out.2.1.mono ?_
  rintro e w5 ⟨A5, c5, p5, rfl, hl5, hb5⟩
  have k5 := HW.out.2.2.2.2.step hb5 rfl (by omega)
  have r5 := HW.out.2.2.1.step hb5 rfl (by omega)
  have b5 := below_then HW.out.2.2.2.1 hb5
  have s5 : w.heap.size + 2 ≤ w5.heap.size := Nat.le_trans s3 hb5.size
  have hn5 := hl5.len H.out.2.2.2.2.2.2.2.2.2.1
  have hsn := signed_to false A5 c5 p5 (z ^ n) w5 hl5.2.1 hl5.2.2.1 (by omega) hl5.1 (by rw [hl5.2.2.2.2]; exact pow_even H.out.2.2.2.2.2.1 ho)
  have HS := Lib.hid (And.intro hsn (And.intro r5 (And.intro b5 k5)))
  clear hsn r5 b5 k5 hl5 hb5 HW hn5 px0 px1
  obtain ⟨px0, px1⟩ := id HS.out.2.2.2
  go_wp2_with fail
  refine HS.out.1.mono ?_
  rintro e w6 ⟨v6, rfl, ⟨b6, A6, c6, zs6, rfl, hsg6, hl6⟩, hb6⟩
  have k6 := HS.out.2.2.2.step hb6 rfl (by omega)
  have r6 := HS.out.2.1.step hb6 rfl (by omega)
  have b6' := below_then HS.out.2.2.1 hb6
  have s6 : w.heap.size + 2 ≤ w6.heap.size := Nat.le_trans s5 hb6.size
  have H6 := Lib.hid (And.intro k6 (And.intro r6 (And.intro b6' (And.intro hl6 hsg6))))
  clear k6 r6 b6' hl6 hb6 HS px0 px1 hsg6
  have hal : Below w6.heap.size w6 (w6.alloc (.cells #[.bool b6, .slice A6 zs6.length c6] 28)) := (Below.refl _ _).alloc (Nat.le_refl _) _
  have hi7 : IntAt (w6.alloc (.cells #[.bool b6, .slice A6 zs6.length c6] 28)) (.agg #[.bool b6, .slice A6 zs6.length c6]) (z ^ n) := ⟨b6, A6, c6, zs6, rfl, H6.out.2.2.2.2, H6.out.2.2.2.1.below hal⟩
  have hln := Length_any _ (z ^ n) 300000 _ hi7 (by decide) (by rw [Int.natAbs_pow]; exact H.out.2.2.2.2.2.2.2.2.2.1)
  have hbm := H.out.2.2.2.2.2.2.2.2.2.2
  obtain ⟨bz, hbz⟩ : ∃ x, bl (magOf (z ^ n)) = x := ⟨_, rfl⟩
  rw [hbz] at hln hbm
  have hbmI : (bz : Int) ≤ 65536 := by omega
  have r7 := H6.out.2.1.step hal rfl (by omega)
  have H7 := Lib.hid (And.intro hln (And.intro hal (And.intro r7 (And.intro hi7 (Two.new w6 (.bool b6) (.slice A6 zs6.length c6) 28)))))
  have s7 : w6.heap.size + 1 ≤ (w6.alloc (.cells #[.bool b6, .slice A6 zs6.length c6] 28)).heap.size := by rw [size_alloc]; omega
  clear hal hi7 hln hbm hbz r7
  go_wp2_with fail
  refine H7.out.1.mono ?_
  rintro e w8 ⟨rfl, hb8⟩
  have k8 := H7.out.2.2.2.2.step hb8 rfl (by omega)
  have r8 := H7.out.2.2.1.step hb8 rfl (by omega)
  have b8 := below_then (below_then H6.out.2.2.1 H7.out.2.1) hb8
  have l8 := (H6.out.2.2.2.1.below H7.out.2.1).below hb8
  have hg6 := H6.out.2.2.2.2
  clear s7
  obtain ⟨px0, px1⟩ := id k8
  obtain ⟨⟨hr0, hr1⟩, hf0, hf1⟩ := id r8
  go_wp2
  have q := r8.1.stored (.bool b6) (.slice A6 zs6.length c6)
  obtain ⟨q0, q1⟩ := id q
  refine bodyPost_ret (v := .tuple #[.agg #[.bool b6, .slice A6 zs6.length c6], .int .i64 0]) (by simp [results, Try.results46, go_sem, q0, q1]) rfl ?_
  exact intE_stored r8 hg6 l8 b8 (by omega)

set_option maxRecDepth 100000 in
set_option maxHeartbeats 1000000 in
theorem powerL_even_big (A : Option Addr) (c : Nat) (zs : List Nat) (z : Int) (n : Nat) (w : World) (hs : SignOf true z) (h : Limbs w A c zs z.natAbs) (hl : zs.length ≤ 300000) (hz : 1 < z.natAbs) (hpos : 0 < n) (hn : n ≤ 1000000) (hnb : n * (bl z.natAbs - 1) ≤ 65536) (ho : n % 2 = 0) (hbo : 65536 < bl (magOf (z ^ n))) :
    Calls Try.prog 46 #[.agg #[.bool true, .slice A zs.length c], .int .i64 (n : Int)] w fun e w' => IsIE w w' 0 14 e := by
  have hb0 := begun1_below w (.bool true) (.slice A zs.length c) 28
  have hT := begun1_x w (.bool true) (.slice A zs.length c) 28
  have hR := begun1_r w (.bool true) (.slice A zs.length c) 28
  have hsz0 := begun1_size w (.bool true) (.slice A zs.length c) 28
  obtain ⟨W, hW⟩ : ∃ W, begun1 w (.bool true) (.slice A zs.length c) 28 = W := ⟨_, rfl⟩
  rw [hW] at hb0 hT hR hsz0
  unfold begun1 at hW
  have hx0 := h.below hb0
  have hsz : w.heap.size + 2 ≤ W.heap.size := by omega
  have hord : 0 < ordOf z.natAbs 1 := by rw [ord_gt hz]; decide
  obtain ⟨g, hg⟩ : ∃ g, ordOf z.natAbs 1 = g := ⟨_, rfl⟩
  rw [hg] at hord
  have hfit := And.intro (pow_fits2 (M := 300000) (by decide) hn hnb) hbo
  obtain ⟨bx, hbx⟩ : ∃ x, bl z.natAbs = x := ⟨_, rfl⟩
  rw [hbx] at hnb
  have hne : ((n : Int) == 0) = false := by rw [beq_eq_false_iff_ne]; omega
  have hne' : ¬ (n : Int) = 0 := by omega
  obtain ⟨d, hd⟩ : ∃ d, 65536 / n = d := ⟨_, rfl⟩
  have hdq : (65536 : Int) / (n : Int) = (d : Int) := by rw [← hd]; simp
  have hdt : (65536 : Int).tdiv (n : Int) = (d : Int) := by rw [Int.tdiv_eq_ediv_of_nonneg (by decide)]; exact hdq
  have hle : bx - 1 ≤ d := by rw [← hd]; exact (Nat.le_div_iff_mul_le hpos).2 (by rw [Nat.mul_comm]; exact hnb)
  have hbl : (bx : Int) - 1 ≤ (d : Int) := by omega
  have hbl2 : (bx : Int) ≤ 65537 := by have := Nat.div_le_self 65536 n; omega
  have hd2 : (d : Int) ≤ 65536 := by rw [← hd]; have := Nat.div_le_self 65536 n; omega
  have hposI : (0 : Int) < (n : Int) := by omega
  clear hd hle hnb hbo
  have hbit : (bits .and .i64 (n : Int) 1 == 1) = false := by rw [i64_and1, beq_eq_false_iff_ne]; omega
  have H := Lib.hid (And.intro hb0 (And.intro hR (And.intro hT (And.intro hW (And.intro hx0 (And.intro hs (And.intro hz (And.intro hg (And.intro hbx hfit)))))))))
  have hn0 : (0 : Int) ≤ (n : Int) := Int.natCast_nonneg _
  obtain ⟨px0, px1⟩ := id H.out.2.2.1
  clear hb0 hT hR hsz0 hW hx0 h hs hz hg hbx hfit
  go_enter Try.func46, Try.ntmps46
  go_upto_region 1 with fail
  rw [H.out.2.2.2.1]
  go_wp2_with fail
  go_region_held3 (fun w' => w'.cell? ⟨w.heap.size, 1, none⟩ = some (.slice A zs.length c))
    (((try dsimp only); (repeat' apply And.intro) <;> (first | (with_reducible assumption) | go_keep)))
    ((first | (go_at_call 71; refine (word_any 1 _ (by decide)).mono ?_; rintro e w2 ⟨A2, c2, p2, rfl, hl2, hb2⟩; have k2 := H.out.2.2.1.step hb2 rfl (by omega); have r2 := H.out.2.1.step hb2 rfl (by omega); have x2 := H.out.2.2.2.2.1.step hb2 rfl; have b2 := below_then H.out.1.drew hb2; have s2 : w.heap.size + 2 ≤ w2.heap.size := Nat.le_trans hsz hb2.size; obtain ⟨qx0, qx1⟩ := id k2) | (go_at_call 84; go_loud (refine (compare_limbs g (by exact x2) (by exact hl2) (by omega) H.out.2.2.2.2.2.2.2.1).mono ?_); rintro e w' ⟨⟨dn, rfl⟩, rfl⟩)))
  have k3 : Two (w2.drewN dn) w.heap.size (.bool true) (.slice A zs.length c) := k2
  have r3 : Res (w2.drewN dn) (w.heap.size + 1) := r2
  have x3 : Limbs (w2.drewN dn) A c zs z.natAbs := x2
  have b3 : Below w.heap.size w (w2.drewN dn) := ⟨b2.os, b2.tape, b2.output, b2.size, b2.block⟩
  have s3 : w.heap.size + 2 ≤ (w2.drewN dn).heap.size := s2
  obtain ⟨w3, hw3⟩ : ∃ x, w2.drewN dn = x := ⟨_, rfl⟩
  rw [hw3] at k3 r3 x3 b3 s3 ⊢
  clear hw3 k2 r2 x2 b2 s2 qx0 qx1 hl2 hb2 px0 px1
  obtain ⟨px0, px1⟩ := id k3
  have hwd := width_any A c z.natAbs zs w3 x3 (by omega)
  rw [H.out.2.2.2.2.2.2.2.2.1] at hwd
  have hrs := raised_any A c zs z.natAbs n w3 x3 (by have := H.out.2.2.2.2.2.2.1; omega) hl (by omega) H.out.2.2.2.2.2.2.2.2.2.1
  have HW := Lib.hid (And.intro hwd (And.intro hrs (And.intro r3 (And.intro b3 k3))))
  clear hwd hrs r3 b3 x3 k3
  go_wp2_with fail
  refine HW.out.1.mono ?_
  rintro e w' ⟨rfl, rfl⟩
  go_wp2_with fail
  refine HW.out.2.1.mono ?_
  rintro e w5 ⟨A5, c5, p5, rfl, hl5, hb5⟩
  have k5 := HW.out.2.2.2.2.step hb5 rfl (by omega)
  have r5 := HW.out.2.2.1.step hb5 rfl (by omega)
  have b5 := below_then HW.out.2.2.2.1 hb5
  have s5 : w.heap.size + 2 ≤ w5.heap.size := Nat.le_trans s3 hb5.size
  have hn5 := hl5.len H.out.2.2.2.2.2.2.2.2.2.1
  have hsn := signed_to false A5 c5 p5 (z ^ n) w5 hl5.2.1 hl5.2.2.1 (by omega) hl5.1 (by rw [hl5.2.2.2.2]; exact pow_even H.out.2.2.2.2.2.1 ho)
  have HS := Lib.hid (And.intro hsn (And.intro r5 (And.intro b5 k5)))
  clear hsn r5 b5 k5 hl5 hb5 HW hn5 px0 px1
  obtain ⟨px0, px1⟩ := id HS.out.2.2.2
  go_wp2_with fail
  refine HS.out.1.mono ?_
  rintro e w6 ⟨v6, rfl, ⟨b6, A6, c6, zs6, rfl, hsg6, hl6⟩, hb6⟩
  have k6 := HS.out.2.2.2.step hb6 rfl (by omega)
  have r6 := HS.out.2.1.step hb6 rfl (by omega)
  have b6' := below_then HS.out.2.2.1 hb6
  have s6 : w.heap.size + 2 ≤ w6.heap.size := Nat.le_trans s5 hb6.size
  have H6 := Lib.hid (And.intro k6 (And.intro r6 (And.intro b6' (And.intro hl6 hsg6))))
  clear k6 r6 b6' hl6 hb6 HS px0 px1 hsg6
  have hal : Below w6.heap.size w6 (w6.alloc (.cells #[.bool b6, .slice A6 zs6.length c6] 28)) := (Below.refl _ _).alloc (Nat.le_refl _) _
  have hi7 : IntAt (w6.alloc (.cells #[.bool b6, .slice A6 zs6.length c6] 28)) (.agg #[.bool b6, .slice A6 zs6.length c6]) (z ^ n) := ⟨b6, A6, c6, zs6, rfl, H6.out.2.2.2.2, H6.out.2.2.2.1.below hal⟩
  have hln := Length_any _ (z ^ n) 300000 _ hi7 (by decide) (by rw [Int.natAbs_pow]; exact H.out.2.2.2.2.2.2.2.2.2.1)
  have hbm := H.out.2.2.2.2.2.2.2.2.2.2
  obtain ⟨bz, hbz⟩ : ∃ x, bl (magOf (z ^ n)) = x := ⟨_, rfl⟩
  rw [hbz] at hln hbm
  have hbmI : (65536 : Int) < (bz : Int) := by omega
  have r7 := H6.out.2.1.step hal rfl (by omega)
  have H7 := Lib.hid (And.intro hln (And.intro hal (And.intro r7 (And.intro hi7 (Two.new w6 (.bool b6) (.slice A6 zs6.length c6) 28)))))
  have s7 : w6.heap.size + 1 ≤ (w6.alloc (.cells #[.bool b6, .slice A6 zs6.length c6] 28)).heap.size := by rw [size_alloc]; omega
  clear hal hi7 hln hbm hbz r7
  go_wp2_with fail
  refine H7.out.1.mono ?_
  rintro e w8 ⟨rfl, hb8⟩
  have k8 := H7.out.2.2.2.2.step hb8 rfl (by omega)
  have r8 := H7.out.2.2.1.step hb8 rfl (by omega)
  have b8 := below_then (below_then H6.out.2.2.1 H7.out.2.1) hb8
  clear s7
  obtain ⟨px0, px1⟩ := id k8
  obtain ⟨⟨hr0, hr1⟩, hf0, hf1⟩ := id r8
  go_wp2
  have q := r8.1.stored (.bool false) (.slice none 0 0)
  obtain ⟨q0, q1⟩ := id q
  refine bodyPost_ret (v := .tuple #[.agg #[.bool false, .slice none 0 0], .int .i64 14]) (by simp [results, Try.results46, go_sem, hr0, hr1, q0, q1]) rfl ?_
  exact intE_stored (zs := []) r8 (by simp [SignOf]) ⟨Nat.le_refl _, Nums.nil _ _ _, Lm.Ok.nil _, Lm.Top.nil, rfl⟩ b8 (by omega)

set_option maxRecDepth 100000 in
set_option maxHeartbeats 1000000 in
theorem powerL_less (b : Bool) (A : Option Addr) (c : Nat) (zs : List Nat) (z : Int) (n : Nat) (w : World) (hs : SignOf b z) (h : Limbs w A c zs z.natAbs) (hl : zs.length ≤ 300000) (hz : 1 < z.natAbs) (hpos : 0 < n) (hn : n ≤ 1000000) (hnb : 65536 < n * (bl z.natAbs - 1)) :
    Calls Try.prog 46 #[.agg #[.bool b, .slice A zs.length c], .int .i64 (n : Int)] w fun e w' => IsIE w w' 0 14 e := by
  have hb0 := begun1_below w (.bool b) (.slice A zs.length c) 28
  have hT := begun1_x w (.bool b) (.slice A zs.length c) 28
  have hR := begun1_r w (.bool b) (.slice A zs.length c) 28
  have hsz0 := begun1_size w (.bool b) (.slice A zs.length c) 28
  obtain ⟨W, hW⟩ : ∃ W, begun1 w (.bool b) (.slice A zs.length c) 28 = W := ⟨_, rfl⟩
  rw [hW] at hb0 hT hR hsz0
  unfold begun1 at hW
  have hx0 := h.below hb0
  have hsz : w.heap.size + 2 ≤ W.heap.size := by omega
  have hord : 0 < ordOf z.natAbs 1 := by rw [ord_gt hz]; decide
  obtain ⟨g, hg⟩ : ∃ g, ordOf z.natAbs 1 = g := ⟨_, rfl⟩
  rw [hg] at hord
  have hfit : True := trivial
  obtain ⟨bx, hbx⟩ : ∃ x, bl z.natAbs = x := ⟨_, rfl⟩
  rw [hbx] at hnb
  have hne : ((n : Int) == 0) = false := by rw [beq_eq_false_iff_ne]; omega
  have hne' : ¬ (n : Int) = 0 := by omega
  obtain ⟨d, hd⟩ : ∃ d, 65536 / n = d := ⟨_, rfl⟩
  have hdq : (65536 : Int) / (n : Int) = (d : Int) := by rw [← hd]; simp
  have hdt : (65536 : Int).tdiv (n : Int) = (d : Int) := by rw [Int.tdiv_eq_ediv_of_nonneg (by decide)]; exact hdq
  have hle : d < bx - 1 := by rw [← hd]; exact (Nat.div_lt_iff_lt_mul hpos).2 (by rw [Nat.mul_comm]; exact hnb)
  have hbl : (d : Int) < (bx : Int) - 1 := by omega
  have hbl2 : (bx : Int) ≤ 9600000 := by have := bl_limbs h; omega
  have hd2 : (d : Int) ≤ 65536 := by rw [← hd]; have := Nat.div_le_self 65536 n; omega
  have hposI : (0 : Int) < (n : Int) := by omega
  clear hd hle hnb
  have H := Lib.hid (And.intro hb0 (And.intro hR (And.intro hT (And.intro hW (And.intro hx0 (And.intro hs (And.intro hz (And.intro hg (And.intro hbx hfit)))))))))
  have hn0 : (0 : Int) ≤ (n : Int) := Int.natCast_nonneg _
  obtain ⟨px0, px1⟩ := id H.out.2.2.1
  clear hb0 hT hR hsz0 hW hx0 h hs hz hg hbx hfit
  go_enter Try.func46, Try.ntmps46
  go_upto_region 1 with fail
  rw [H.out.2.2.2.1]
  go_wp2_with fail
  go_region_held3 (fun w' => w'.cell? ⟨w.heap.size, 1, none⟩ = some (.slice A zs.length c))
    (((try dsimp only); (repeat' apply And.intro) <;> (first | (with_reducible assumption) | go_keep)))
    ((first | (go_at_call 71; refine (word_any 1 _ (by decide)).mono ?_; rintro e w2 ⟨A2, c2, p2, rfl, hl2, hb2⟩; have k2 := H.out.2.2.1.step hb2 rfl (by omega); have r2 := H.out.2.1.step hb2 rfl (by omega); have x2 := H.out.2.2.2.2.1.step hb2 rfl; have b2 := below_then H.out.1.drew hb2; have s2 : w.heap.size + 2 ≤ w2.heap.size := Nat.le_trans hsz hb2.size; obtain ⟨qx0, qx1⟩ := id k2) | (go_at_call 84; go_loud (refine (compare_limbs g (by exact x2) (by exact hl2) (by omega) H.out.2.2.2.2.2.2.2.1).mono ?_); rintro e w' ⟨⟨dn, rfl⟩, rfl⟩)))
  have k3 : Two (w2.drewN dn) w.heap.size (.bool b) (.slice A zs.length c) := k2
  have r3 : Res (w2.drewN dn) (w.heap.size + 1) := r2
  have x3 : Limbs (w2.drewN dn) A c zs z.natAbs := x2
  have b3 : Below w.heap.size w (w2.drewN dn) := ⟨b2.os, b2.tape, b2.output, b2.size, b2.block⟩
  have s3 : w.heap.size + 2 ≤ (w2.drewN dn).heap.size := s2
  obtain ⟨w3, hw3⟩ : ∃ x, w2.drewN dn = x := ⟨_, rfl⟩
  rw [hw3] at k3 r3 x3 b3 s3 ⊢
  clear hw3 k2 r2 x2 b2 s2 qx0 qx1 hl2 hb2 px0 px1
  obtain ⟨px0, px1⟩ := id k3
  have hwd := width_any A c z.natAbs zs w3 x3 (by omega)
  rw [H.out.2.2.2.2.2.2.2.2.1] at hwd
  have HW := Lib.hid (And.intro hwd (And.intro r3 (And.intro b3 k3)))
  clear hwd r3 b3 x3 k3
  go_wp2_with fail
  refine HW.out.1.mono ?_
  rintro e w' ⟨rfl, rfl⟩
  obtain ⟨⟨hr0, hr1⟩, hf0, hf1⟩ := id HW.out.2.1
  go_wp2
  have q := HW.out.2.1.1.stored (.bool false) (.slice none 0 0)
  obtain ⟨q0, q1⟩ := id q
  refine bodyPost_ret (v := .tuple #[.agg #[.bool false, .slice none 0 0], .int .i64 14]) (by simp [results, Try.results46, go_sem, hr0, hr1, q0, q1]) rfl ?_
  exact intE_stored (zs := []) HW.out.2.1 (by simp [SignOf]) ⟨Nat.le_refl _, Nums.nil _ _ _, Lm.Ok.nil _, Lm.Top.nil, rfl⟩ HW.out.2.2.1 (by omega)

theorem power_first {X n : Nat} (h : 65536 < n * (bl X - 1)) : 65536 < bl (X ^ n) := by
  have h0 : X ≠ 0 := by intro e; subst e; simp [bl_zero] at h
  have h1 : 2 ^ (bl X - 1) ≤ X := by
    unfold bl
    rw [if_neg h0]
    exact Nat.log2_self_le h0
  have h2 := Nat.pow_le_pow_left h1 n
  rw [← Nat.pow_mul, Nat.mul_comm] at h2
  obtain ⟨K, hK⟩ : ∃ K, 65536 = K := ⟨_, rfl⟩
  rw [hK] at h ⊢
  rcases Nat.lt_or_ge K (bl (X ^ n)) with hlt | hge
  · exact hlt
  · have h3 := bl_le.1 hge
    have h4 : 2 ^ K ≤ 2 ^ (n * (bl X - 1)) := Nat.pow_le_pow_right (by decide) (by omega)
    omega
end Go.Proofs.Ytagmdeabneapaaa
