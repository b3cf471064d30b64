/- What Power of the reference does, with an absolute value of at most 1. -/
import Derived.Test.YtagocllbfbbneaaRPower
namespace Go.Proofs.Ytagocllbfbbneaa
open Go.RowKit
set_option linter.unusedSimpArgs false

set_option maxRecDepth 100000 in
set_option maxHeartbeats 2000000 in
theorem rpower_u1 (v : Value) (z : Int) (k : Nat) (w : World) (h : RefAt w v z) (h2 : z.natAbs ≤ 1) (hk : k ≤ 300000) (hz : z.natAbs < BD ^ k) :
    Calls Try.prog 47 #[v, .int .i64 ((0 : Nat) : Int)] w fun e w' => IsRE w w' 1 0 e := by
  obtain ⟨b, A, c, ds, rfl, hs, hd⟩ := h
  have hb0 := begun1_below w (.bool b) (.slice A ds.length c) 31
  have hT := begun1_x w (.bool b) (.slice A ds.length c) 31
  have hR := begun1_r w (.bool b) (.slice A ds.length c) 31
  have hsz := begun1_size w (.bool b) (.slice A ds.length c) 31
  obtain ⟨W, hW⟩ : ∃ W, begun1 w (.bool b) (.slice A ds.length c) 31 = W := ⟨_, rfl⟩
  rw [hW] at hb0 hT hR hsz
  unfold begun1 at hW
  have H := Lib.hid (And.intro hb0 (And.intro hR (And.intro hW (And.intro hT (And.intro hs (And.intro (hd.below hb0) (And.intro h2 (And.intro hz (RNew_pos 1 W (by decide))))))))))
  have hs2 : w.heap.size + 2 ≤ W.heap.size := by omega
  clear hb0 hT hR hW hs hd hsz h2 hz
  go_enter Try.func47, Try.ntmps47
  go_upto_region 1 with fail
  rw [H.out.2.2.1]
  go_wp2_with fail
  refine H.out.2.2.2.2.2.2.2.2.mono ?_
  rintro e w1 ⟨v1, rfl, ⟨b1, A1, c1, ds1, rfl, hs1, hd1⟩, hb1⟩
  have hal : Below w1.heap.size w1 (w1.alloc (.cells #[.bool b1, .slice A1 ds1.length c1] 31)) := (Below.refl _ _).alloc (Nat.le_refl _) _
  have ho := Held2.new hs1 hd1
  have k1 := (H.out.2.2.2.1.step hb1 rfl (by omega)).step hal rfl (by have := hb1.size; omega)
  have r1 := (H.out.2.1.step hb1 rfl (by omega)).step hal rfl (by have := hb1.size; omega)
  have d1 := (H.out.2.2.2.2.2.1.below hb1).below hal
  have b1' := below_then (below_then H.out.1 hb1) hal
  have hz1 : w.heap.size + 2 ≤ w1.heap.size := Nat.le_trans hs2 hb1.size
  obtain ⟨W1, hW1⟩ : ∃ X : World, X = w1.alloc (.cells #[.bool b1, .slice A1 ds1.length c1] 31) := ⟨_, rfl⟩
  obtain ⟨ro, hro⟩ : ∃ r : Nat, r = w1.heap.size := ⟨_, rfl⟩
  rw [← hW1] at ho k1 r1 d1 b1'
  rw [← hro] at ho hz1
  have HO := Lib.hid (And.intro ho (And.intro k1 (And.intro r1 (And.intro d1 b1'))))
  have HW1 := Lib.hid (And.intro hW1 hro)
  clear hal ho k1 r1 d1 b1' hW1 hro hs1 hd1 hb1
  go_upto_region 4 with fail
  rw [← HW1.out.1, ← HW1.out.2]
  clear HW1
  obtain ⟨px0, px1⟩ := id HO.out.2.1
  have hwd := Rwidth_any _ z k W1 ⟨b, A, c, ds, rfl, H.out.2.2.2.2.1, HO.out.2.2.2.1⟩ (by omega) H.out.2.2.2.2.2.2.2.1
  have hbl2 : bl z.natAbs ≤ 1 := bl_le.2 (by have := H.out.2.2.2.2.2.2.1; omega)
  obtain ⟨bz, hbz⟩ : ∃ x, bl z.natAbs = x := ⟨_, rfl⟩
  rw [hbz] at hwd hbl2
  have HWD := Lib.hid hwd
  clear hwd hbz
  have hbzI : (bz : Int) ≤ 1 := by omega
  go_wp2_with fail
  refine HWD.out.mono ?_
  rintro e w2 ⟨rfl, hb2⟩
  have HP := Lib.hid (And.intro (HO.out.1.step hb2 rfl) (And.intro (HO.out.2.1.step hb2 rfl (by have := HO.out.1.lt; omega)) (And.intro (HO.out.2.2.1.step hb2 rfl (by have := HO.out.1.lt; omega)) (And.intro (HO.out.2.2.2.1.below hb2) (below_then HO.out.2.2.2.2 hb2)))))
  clear HO HWD px0 px1 hb2
  have o5 := HP.out.1
  have r5 := HP.out.2.2.1
  obtain ⟨q0, q1⟩ := id o5.two
  obtain ⟨px0, px1⟩ := id HP.out.2.1
  obtain ⟨⟨hr0, hr1⟩, hf0, hf1⟩ := id r5
  go_wp2
  have q := r5.1.stored (.bool b1) (.slice A1 ds1.length c1)
  obtain ⟨s0, s1⟩ := id q
  refine bodyPost_ret (v := .tuple #[.agg #[.bool b1, .slice A1 ds1.length c1], .int .i64 0]) (by simp [results, Try.results47, go_sem, s0, s1]) rfl ?_
  exact refE_stored r5 o5.sg o5.dg HP.out.2.2.2.2 (by omega)

set_option maxRecDepth 100000 in
set_option maxHeartbeats 2000000 in
theorem rpower_u2 (v : Value) (z g : Int) (n : Nat) (k : Nat) (w : World) (h : RefAt w v z) (h2 : z.natAbs ≤ 1) (hk : k ≤ 300000) (hz : z.natAbs < BD ^ k) (hpos : 0 < n) (hn : n ≤ 9223372036854775807) (hg : z.sign = g) (h0 : 0 < g) :
    Calls Try.prog 47 #[v, .int .i64 (n : Int)] w fun e w' => IsRE w w' 1 0 e := by
  have hne : ((n : Int) == 0) = false := by rw [beq_eq_false_iff_ne]; omega
  have hne2 : (1 : Int) ≤ (n : Int) := by omega
  obtain ⟨b, A, c, ds, rfl, hs, hd⟩ := h
  have hb0 := begun1_below w (.bool b) (.slice A ds.length c) 31
  have hT := begun1_x w (.bool b) (.slice A ds.length c) 31
  have hR := begun1_r w (.bool b) (.slice A ds.length c) 31
  have hsz := begun1_size w (.bool b) (.slice A ds.length c) 31
  obtain ⟨W, hW⟩ : ∃ W, begun1 w (.bool b) (.slice A ds.length c) 31 = W := ⟨_, rfl⟩
  rw [hW] at hb0 hT hR hsz
  unfold begun1 at hW
  have H := Lib.hid (And.intro hb0 (And.intro hR (And.intro hW (And.intro hT (And.intro hs (And.intro (hd.below hb0) (And.intro h2 (And.intro hz (And.intro (RNew_pos 1 W (by decide)) hg)))))))))
  have hn0 : (0 : Int) ≤ (n : Int) := Int.natCast_nonneg _
  have hs2 : w.heap.size + 2 ≤ W.heap.size := by omega
  clear hb0 hT hR hW hs hd hsz h2 hz hg
  go_enter Try.func47, Try.ntmps47
  go_upto_region 1 with fail
  rw [H.out.2.2.1]
  go_wp2_with fail
  refine H.out.2.2.2.2.2.2.2.2.1.mono ?_
  rintro e w1 ⟨v1, rfl, ⟨b1, A1, c1, ds1, rfl, hs1, hd1⟩, hb1⟩
  have hal : Below w1.heap.size w1 (w1.alloc (.cells #[.bool b1, .slice A1 ds1.length c1] 31)) := (Below.refl _ _).alloc (Nat.le_refl _) _
  have ho := Held2.new hs1 hd1
  have k1 := (H.out.2.2.2.1.step hb1 rfl (by omega)).step hal rfl (by have := hb1.size; omega)
  have r1 := (H.out.2.1.step hb1 rfl (by omega)).step hal rfl (by have := hb1.size; omega)
  have d1 := (H.out.2.2.2.2.2.1.below hb1).below hal
  have b1' := below_then (below_then H.out.1 hb1) hal
  have hz1 : w.heap.size + 2 ≤ w1.heap.size := Nat.le_trans hs2 hb1.size
  obtain ⟨W1, hW1⟩ : ∃ X : World, X = w1.alloc (.cells #[.bool b1, .slice A1 ds1.length c1] 31) := ⟨_, rfl⟩
  obtain ⟨ro, hro⟩ : ∃ r : Nat, r = w1.heap.size := ⟨_, rfl⟩
  rw [← hW1] at ho k1 r1 d1 b1'
  rw [← hro] at ho hz1
  have HO := Lib.hid (And.intro ho (And.intro k1 (And.intro r1 (And.intro d1 b1'))))
  have HW1 := Lib.hid (And.intro hW1 hro)
  clear hal ho k1 r1 d1 b1' hW1 hro hs1 hd1 hb1
  go_upto_region 4 with fail
  rw [← HW1.out.1, ← HW1.out.2]
  clear HW1
  obtain ⟨px0, px1⟩ := id HO.out.2.1
  have hwd := Rwidth_any _ z k W1 ⟨b, A, c, ds, rfl, H.out.2.2.2.2.1, HO.out.2.2.2.1⟩ (by omega) H.out.2.2.2.2.2.2.2.1
  have hbl2 : bl z.natAbs ≤ 1 := bl_le.2 (by have := H.out.2.2.2.2.2.2.1; omega)
  obtain ⟨bz, hbz⟩ : ∃ x, bl z.natAbs = x := ⟨_, rfl⟩
  rw [hbz] at hwd hbl2
  have HWD := Lib.hid hwd
  clear hwd hbz
  have hbzI : (bz : Int) ≤ 1 := by omega
  go_wp2_with fail
  refine HWD.out.mono ?_
  rintro e w2 ⟨rfl, hb2⟩
  have HP := Lib.hid (And.intro (HO.out.1.step hb2 rfl) (And.intro (HO.out.2.1.step hb2 rfl (by have := HO.out.1.lt; omega)) (And.intro (HO.out.2.2.1.step hb2 rfl (by have := HO.out.1.lt; omega)) (And.intro (HO.out.2.2.2.1.below hb2) (below_then HO.out.2.2.2.2 hb2)))))
  clear HO HWD px0 px1 hb2
  obtain ⟨px0, px1⟩ := id HP.out.2.1
  have hsg := RSign_any _ z k w2 ⟨b, A, c, ds, rfl, H.out.2.2.2.2.1, HP.out.2.2.2.1⟩ (by omega) H.out.2.2.2.2.2.2.2.1
  rw [H.out.2.2.2.2.2.2.2.2.2] at hsg
  have HG := Lib.hid hsg
  clear hsg
  go_wp2_with fail
  refine HG.out.mono ?_
  rintro e ws0 ⟨rfl, hb⟩
  have HS0 := Lib.hid (And.intro (HP.out.1.step hb rfl) (And.intro (HP.out.2.1.step hb rfl (by have := HP.out.1.lt; omega)) (And.intro (HP.out.2.2.1.step hb rfl (by have := HP.out.1.lt; omega)) (And.intro (HP.out.2.2.2.1.below hb) (below_then HP.out.2.2.2.2 hb)))))
  clear px0 px1 HG hb HP
  have o5 := HS0.out.1
  have r5 := HS0.out.2.2.1
  obtain ⟨q0, q1⟩ := id o5.two
  obtain ⟨px0, px1⟩ := id HS0.out.2.1
  obtain ⟨⟨hr0, hr1⟩, hf0, hf1⟩ := id r5
  go_wp2
  have q := r5.1.stored (.bool b1) (.slice A1 ds1.length c1)
  obtain ⟨s0, s1⟩ := id q
  refine bodyPost_ret (v := .tuple #[.agg #[.bool b1, .slice A1 ds1.length c1], .int .i64 0]) (by simp [results, Try.results47, go_sem, s0, s1]) rfl ?_
  exact refE_stored r5 o5.sg o5.dg HS0.out.2.2.2.2 (by omega)

set_option maxRecDepth 100000 in
set_option maxHeartbeats 2000000 in
theorem rpower_u3 (v : Value) (z g : Int) (n : Nat) (k : Nat) (w : World) (h : RefAt w v z) (h2 : z.natAbs ≤ 1) (hk : k ≤ 300000) (hz : z.natAbs < BD ^ k) (hpos : 0 < n) (hn : n ≤ 9223372036854775807) (hg : z.sign = g) (h0 : g < 0) (ho : n % 2 = 0) :
    Calls Try.prog 47 #[v, .int .i64 (n : Int)] w fun e w' => IsRE w w' 1 0 e := by
  have hne : ((n : Int) == 0) = false := by rw [beq_eq_false_iff_ne]; omega
  have hne2 : (1 : Int) ≤ (n : Int) := by omega
  have hpar : (n : Int) % 2 = 0 := by omega
  obtain ⟨b, A, c, ds, rfl, hs, hd⟩ := h
  have hb0 := begun1_below w (.bool b) (.slice A ds.length c) 31
  have hT := begun1_x w (.bool b) (.slice A ds.length c) 31
  have hR := begun1_r w (.bool b) (.slice A ds.length c) 31
  have hsz := begun1_size w (.bool b) (.slice A ds.length c) 31
  obtain ⟨W, hW⟩ : ∃ W, begun1 w (.bool b) (.slice A ds.length c) 31 = W := ⟨_, rfl⟩
  rw [hW] at hb0 hT hR hsz
  unfold begun1 at hW
  have H := Lib.hid (And.intro hb0 (And.intro hR (And.intro hW (And.intro hT (And.intro hs (And.intro (hd.below hb0) (And.intro h2 (And.intro hz (And.intro (RNew_pos 1 W (by decide)) hg)))))))))
  have hn0 : (0 : Int) ≤ (n : Int) := Int.natCast_nonneg _
  have hs2 : w.heap.size + 2 ≤ W.heap.size := by omega
  clear hb0 hT hR hW hs hd hsz h2 hz hg
  go_enter Try.func47, Try.ntmps47
  go_upto_region 1 with fail
  rw [H.out.2.2.1]
  go_wp2_with fail
  refine H.out.2.2.2.2.2.2.2.2.1.mono ?_
  rintro e w1 ⟨v1, rfl, ⟨b1, A1, c1, ds1, rfl, hs1, hd1⟩, hb1⟩
  have hal : Below w1.heap.size w1 (w1.alloc (.cells #[.bool b1, .slice A1 ds1.length c1] 31)) := (Below.refl _ _).alloc (Nat.le_refl _) _
  have ho := Held2.new hs1 hd1
  have k1 := (H.out.2.2.2.1.step hb1 rfl (by omega)).step hal rfl (by have := hb1.size; omega)
  have r1 := (H.out.2.1.step hb1 rfl (by omega)).step hal rfl (by have := hb1.size; omega)
  have d1 := (H.out.2.2.2.2.2.1.below hb1).below hal
  have b1' := below_then (below_then H.out.1 hb1) hal
  have hz1 : w.heap.size + 2 ≤ w1.heap.size := Nat.le_trans hs2 hb1.size
  obtain ⟨W1, hW1⟩ : ∃ X : World, X = w1.alloc (.cells #[.bool b1, .slice A1 ds1.length c1] 31) := ⟨_, rfl⟩
  obtain ⟨ro, hro⟩ : ∃ r : Nat, r = w1.heap.size := ⟨_, rfl⟩
  rw [← hW1] at ho k1 r1 d1 b1'
  rw [← hro] at ho hz1
  have HO := Lib.hid (And.intro ho (And.intro k1 (And.intro r1 (And.intro d1 b1'))))
  have HW1 := Lib.hid (And.intro hW1 hro)
  clear hal ho k1 r1 d1 b1' hW1 hro hs1 hd1 hb1
  go_upto_region 4 with fail
  rw [← HW1.out.1, ← HW1.out.2]
  clear HW1
  obtain ⟨px0, px1⟩ := id HO.out.2.1
  have hwd := Rwidth_any _ z k W1 ⟨b, A, c, ds, rfl, H.out.2.2.2.2.1, HO.out.2.2.2.1⟩ (by omega) H.out.2.2.2.2.2.2.2.1
  have hbl2 : bl z.natAbs ≤ 1 := bl_le.2 (by have := H.out.2.2.2.2.2.2.1; omega)
  obtain ⟨bz, hbz⟩ : ∃ x, bl z.natAbs = x := ⟨_, rfl⟩
  rw [hbz] at hwd hbl2
  have HWD := Lib.hid hwd
  clear hwd hbz
  have hbzI : (bz : Int) ≤ 1 := by omega
  go_wp2_with fail
  refine HWD.out.mono ?_
  rintro e w2 ⟨rfl, hb2⟩
  have HP := Lib.hid (And.intro (HO.out.1.step hb2 rfl) (And.intro (HO.out.2.1.step hb2 rfl (by have := HO.out.1.lt; omega)) (And.intro (HO.out.2.2.1.step hb2 rfl (by have := HO.out.1.lt; omega)) (And.intro (HO.out.2.2.2.1.below hb2) (below_then HO.out.2.2.2.2 hb2)))))
  clear HO HWD px0 px1 hb2
  obtain ⟨px0, px1⟩ := id HP.out.2.1
  have hsg := RSign_any _ z k w2 ⟨b, A, c, ds, rfl, H.out.2.2.2.2.1, HP.out.2.2.2.1⟩ (by omega) H.out.2.2.2.2.2.2.2.1
  rw [H.out.2.2.2.2.2.2.2.2.2] at hsg
  have HG := Lib.hid hsg
  clear hsg
  go_wp2_with fail
  refine HG.out.mono ?_
  rintro e ws0 ⟨rfl, hb⟩
  have HS0 := Lib.hid (And.intro (HP.out.1.step hb rfl) (And.intro (HP.out.2.1.step hb rfl (by have := HP.out.1.lt; omega)) (And.intro (HP.out.2.2.1.step hb rfl (by have := HP.out.1.lt; omega)) (And.intro (HP.out.2.2.2.1.below hb) (below_then HP.out.2.2.2.2 hb)))))
  clear px0 px1 HG hb HP
  obtain ⟨px0, px1⟩ := id HS0.out.2.1
  have hsg := RSign_any _ z k ws0 ⟨b, A, c, ds, rfl, H.out.2.2.2.2.1, HS0.out.2.2.2.1⟩ (by omega) H.out.2.2.2.2.2.2.2.1
  rw [H.out.2.2.2.2.2.2.2.2.2] at hsg
  have HG := Lib.hid hsg
  clear hsg
  go_wp2_with fail
  refine HG.out.mono ?_
  rintro e ws1 ⟨rfl, hb⟩
  have HS1 := Lib.hid (And.intro (HS0.out.1.step hb rfl) (And.intro (HS0.out.2.1.step hb rfl (by have := HS0.out.1.lt; omega)) (And.intro (HS0.out.2.2.1.step hb rfl (by have := HS0.out.1.lt; omega)) (And.intro (HS0.out.2.2.2.1.below hb) (below_then HS0.out.2.2.2.2 hb)))))
  clear px0 px1 HG hb HS0
  have o5 := HS1.out.1
  have r5 := HS1.out.2.2.1
  obtain ⟨q0, q1⟩ := id o5.two
  obtain ⟨px0, px1⟩ := id HS1.out.2.1
  obtain ⟨⟨hr0, hr1⟩, hf0, hf1⟩ := id r5
  go_wp2
  have q := r5.1.stored (.bool b1) (.slice A1 ds1.length c1)
  obtain ⟨s0, s1⟩ := id q
  refine bodyPost_ret (v := .tuple #[.agg #[.bool b1, .slice A1 ds1.length c1], .int .i64 0]) (by simp [results, Try.results47, go_sem, s0, s1]) rfl ?_
  exact refE_stored r5 o5.sg o5.dg HS1.out.2.2.2.2 (by omega)

set_option maxRecDepth 100000 in
set_option maxHeartbeats 2000000 in
theorem rpower_u4 (v : Value) (z g : Int) (n : Nat) (k : Nat) (w : World) (h : RefAt w v z) (h2 : z.natAbs ≤ 1) (hk : k ≤ 300000) (hz : z.natAbs < BD ^ k) (hpos : 0 < n) (hn : n ≤ 9223372036854775807) (hg : z.sign = g) (h0 : g < 0) (ho : n % 2 = 1) :
    Calls Try.prog 47 #[v, .int .i64 (n : Int)] w fun e w' => IsRE w w' z 0 e := by
  have hne : ((n : Int) == 0) = false := by rw [beq_eq_false_iff_ne]; omega
  have hne2 : (1 : Int) ≤ (n : Int) := by omega
  have hpar : (n : Int) % 2 = 1 := by omega
  obtain ⟨b, A, c, ds, rfl, hs, hd⟩ := h
  have hb0 := begun1_below w (.bool b) (.slice A ds.length c) 31
  have hT := begun1_x w (.bool b) (.slice A ds.length c) 31
  have hR := begun1_r w (.bool b) (.slice A ds.length c) 31
  have hsz := begun1_size w (.bool b) (.slice A ds.length c) 31
  obtain ⟨W, hW⟩ : ∃ W, begun1 w (.bool b) (.slice A ds.length c) 31 = W := ⟨_, rfl⟩
  rw [hW] at hb0 hT hR hsz
  unfold begun1 at hW
  have H := Lib.hid (And.intro hb0 (And.intro hR (And.intro hW (And.intro hT (And.intro hs (And.intro (hd.below hb0) (And.intro h2 (And.intro hz (And.intro (RNew_pos 1 W (by decide)) hg)))))))))
  have hn0 : (0 : Int) ≤ (n : Int) := Int.natCast_nonneg _
  have hs2 : w.heap.size + 2 ≤ W.heap.size := by omega
  clear hb0 hT hR hW hs hd hsz h2 hz hg
  go_enter Try.func47, Try.ntmps47
  go_upto_region 1 with fail
  rw [H.out.2.2.1]
  go_wp2_with fail
  refine H.out.2.2.2.2.2.2.2.2.1.mono ?_
  rintro e w1 ⟨v1, rfl, ⟨b1, A1, c1, ds1, rfl, hs1, hd1⟩, hb1⟩
  have hal : Below w1.heap.size w1 (w1.alloc (.cells #[.bool b1, .slice A1 ds1.length c1] 31)) := (Below.refl _ _).alloc (Nat.le_refl _) _
  have ho := Held2.new hs1 hd1
  have k1 := (H.out.2.2.2.1.step hb1 rfl (by omega)).step hal rfl (by have := hb1.size; omega)
  have r1 := (H.out.2.1.step hb1 rfl (by omega)).step hal rfl (by have := hb1.size; omega)
  have d1 := (H.out.2.2.2.2.2.1.below hb1).below hal
  have b1' := below_then (below_then H.out.1 hb1) hal
  have hz1 : w.heap.size + 2 ≤ w1.heap.size := Nat.le_trans hs2 hb1.size
  obtain ⟨W1, hW1⟩ : ∃ X : World, X = w1.alloc (.cells #[.bool b1, .slice A1 ds1.length c1] 31) := ⟨_, rfl⟩
  obtain ⟨ro, hro⟩ : ∃ r : Nat, r = w1.heap.size := ⟨_, rfl⟩
  rw [← hW1] at ho k1 r1 d1 b1'
  rw [← hro] at ho hz1
  have HO := Lib.hid (And.intro ho (And.intro k1 (And.intro r1 (And.intro d1 b1'))))
  have HW1 := Lib.hid (And.intro hW1 hro)
  clear hal ho k1 r1 d1 b1' hW1 hro hs1 hd1 hb1
  go_upto_region 4 with fail
  rw [← HW1.out.1, ← HW1.out.2]
  clear HW1
  obtain ⟨px0, px1⟩ := id HO.out.2.1
  have hwd := Rwidth_any _ z k W1 ⟨b, A, c, ds, rfl, H.out.2.2.2.2.1, HO.out.2.2.2.1⟩ (by omega) H.out.2.2.2.2.2.2.2.1
  have hbl2 : bl z.natAbs ≤ 1 := bl_le.2 (by have := H.out.2.2.2.2.2.2.1; omega)
  obtain ⟨bz, hbz⟩ : ∃ x, bl z.natAbs = x := ⟨_, rfl⟩
  rw [hbz] at hwd hbl2
  have HWD := Lib.hid hwd
  clear hwd hbz
  have hbzI : (bz : Int) ≤ 1 := by omega
  go_wp2_with fail
  refine HWD.out.mono ?_
  rintro e w2 ⟨rfl, hb2⟩
  have HP := Lib.hid (And.intro (HO.out.1.step hb2 rfl) (And.intro (HO.out.2.1.step hb2 rfl (by have := HO.out.1.lt; omega)) (And.intro (HO.out.2.2.1.step hb2 rfl (by have := HO.out.1.lt; omega)) (And.intro (HO.out.2.2.2.1.below hb2) (below_then HO.out.2.2.2.2 hb2)))))
  clear HO HWD px0 px1 hb2
  obtain ⟨px0, px1⟩ := id HP.out.2.1
  have hsg := RSign_any _ z k w2 ⟨b, A, c, ds, rfl, H.out.2.2.2.2.1, HP.out.2.2.2.1⟩ (by omega) H.out.2.2.2.2.2.2.2.1
  rw [H.out.2.2.2.2.2.2.2.2.2] at hsg
  have HG := Lib.hid hsg
  clear hsg
  go_wp2_with fail
  refine HG.out.mono ?_
  rintro e ws0 ⟨rfl, hb⟩
  have HS0 := Lib.hid (And.intro (HP.out.1.step hb rfl) (And.intro (HP.out.2.1.step hb rfl (by have := HP.out.1.lt; omega)) (And.intro (HP.out.2.2.1.step hb rfl (by have := HP.out.1.lt; omega)) (And.intro (HP.out.2.2.2.1.below hb) (below_then HP.out.2.2.2.2 hb)))))
  clear px0 px1 HG hb HP
  obtain ⟨px0, px1⟩ := id HS0.out.2.1
  have hsg := RSign_any _ z k ws0 ⟨b, A, c, ds, rfl, H.out.2.2.2.2.1, HS0.out.2.2.2.1⟩ (by omega) H.out.2.2.2.2.2.2.2.1
  rw [H.out.2.2.2.2.2.2.2.2.2] at hsg
  have HG := Lib.hid hsg
  clear hsg
  go_wp2_with fail
  refine HG.out.mono ?_
  rintro e ws1 ⟨rfl, hb⟩
  have HS1 := Lib.hid (And.intro (HS0.out.1.step hb rfl) (And.intro (HS0.out.2.1.step hb rfl (by have := HS0.out.1.lt; omega)) (And.intro (HS0.out.2.2.1.step hb rfl (by have := HS0.out.1.lt; omega)) (And.intro (HS0.out.2.2.2.1.below hb) (below_then HS0.out.2.2.2.2 hb)))))
  clear px0 px1 HG hb HS0
  have o5 := HS1.out.1
  have r5 := HS1.out.2.2.1
  obtain ⟨q0, q1⟩ := id o5.two
  obtain ⟨px0, px1⟩ := id HS1.out.2.1
  obtain ⟨⟨hr0, hr1⟩, hf0, hf1⟩ := id r5
  go_wp2
  have q := r5.1.stored (.bool b) (.slice A ds.length c)
  obtain ⟨s0, s1⟩ := id q
  refine bodyPost_ret (v := .tuple #[.agg #[.bool b, .slice A ds.length c], .int .i64 0]) (by simp [results, Try.results47, go_sem, s0, s1]) rfl ?_
  exact refE_stored r5 H.out.2.2.2.2.1 HS1.out.2.2.2.1 HS1.out.2.2.2.2 (by omega)

set_option maxRecDepth 100000 in
set_option maxHeartbeats 2000000 in
theorem rpower_u5 (v : Value) (z g : Int) (n : Nat) (k : Nat) (w : World) (h : RefAt w v z) (h2 : z.natAbs ≤ 1) (hk : k ≤ 300000) (hz : z.natAbs < BD ^ k) (hpos : 0 < n) (hn : n ≤ 9223372036854775807) (hg : z.sign = g) (h0 : g = 0) :
    Calls Try.prog 47 #[v, .int .i64 (n : Int)] w fun e w' => IsRE w w' z 0 e := by
  have hne : ((n : Int) == 0) = false := by rw [beq_eq_false_iff_ne]; omega
  have hne2 : (1 : Int) ≤ (n : Int) := by omega
  obtain ⟨b, A, c, ds, rfl, hs, hd⟩ := h
  have hb0 := begun1_below w (.bool b) (.slice A ds.length c) 31
  have hT := begun1_x w (.bool b) (.slice A ds.length c) 31
  have hR := begun1_r w (.bool b) (.slice A ds.length c) 31
  have hsz := begun1_size w (.bool b) (.slice A ds.length c) 31
  obtain ⟨W, hW⟩ : ∃ W, begun1 w (.bool b) (.slice A ds.length c) 31 = W := ⟨_, rfl⟩
  rw [hW] at hb0 hT hR hsz
  unfold begun1 at hW
  have H := Lib.hid (And.intro hb0 (And.intro hR (And.intro hW (And.intro hT (And.intro hs (And.intro (hd.below hb0) (And.intro h2 (And.intro hz (And.intro (RNew_pos 1 W (by decide)) hg)))))))))
  have hn0 : (0 : Int) ≤ (n : Int) := Int.natCast_nonneg _
  have hs2 : w.heap.size + 2 ≤ W.heap.size := by omega
  clear hb0 hT hR hW hs hd hsz h2 hz hg
  go_enter Try.func47, Try.ntmps47
  go_upto_region 1 with fail
  rw [H.out.2.2.1]
  go_wp2_with fail
  refine H.out.2.2.2.2.2.2.2.2.1.mono ?_
  rintro e w1 ⟨v1, rfl, ⟨b1, A1, c1, ds1, rfl, hs1, hd1⟩, hb1⟩
  have hal : Below w1.heap.size w1 (w1.alloc (.cells #[.bool b1, .slice A1 ds1.length c1] 31)) := (Below.refl _ _).alloc (Nat.le_refl _) _
  have ho := Held2.new hs1 hd1
  have k1 := (H.out.2.2.2.1.step hb1 rfl (by omega)).step hal rfl (by have := hb1.size; omega)
  have r1 := (H.out.2.1.step hb1 rfl (by omega)).step hal rfl (by have := hb1.size; omega)
  have d1 := (H.out.2.2.2.2.2.1.below hb1).below hal
  have b1' := below_then (below_then H.out.1 hb1) hal
  have hz1 : w.heap.size + 2 ≤ w1.heap.size := Nat.le_trans hs2 hb1.size
  obtain ⟨W1, hW1⟩ : ∃ X : World, X = w1.alloc (.cells #[.bool b1, .slice A1 ds1.length c1] 31) := ⟨_, rfl⟩
  obtain ⟨ro, hro⟩ : ∃ r : Nat, r = w1.heap.size := ⟨_, rfl⟩
  rw [← hW1] at ho k1 r1 d1 b1'
  rw [← hro] at ho hz1
  have HO := Lib.hid (And.intro ho (And.intro k1 (And.intro r1 (And.intro d1 b1'))))
  have HW1 := Lib.hid (And.intro hW1 hro)
  clear hal ho k1 r1 d1 b1' hW1 hro hs1 hd1 hb1
  go_upto_region 4 with fail
  rw [← HW1.out.1, ← HW1.out.2]
  clear HW1
  obtain ⟨px0, px1⟩ := id HO.out.2.1
  have hwd := Rwidth_any _ z k W1 ⟨b, A, c, ds, rfl, H.out.2.2.2.2.1, HO.out.2.2.2.1⟩ (by omega) H.out.2.2.2.2.2.2.2.1
  have hbl2 : bl z.natAbs ≤ 1 := bl_le.2 (by have := H.out.2.2.2.2.2.2.1; omega)
  obtain ⟨bz, hbz⟩ : ∃ x, bl z.natAbs = x := ⟨_, rfl⟩
  rw [hbz] at hwd hbl2
  have HWD := Lib.hid hwd
  clear hwd hbz
  have hbzI : (bz : Int) ≤ 1 := by omega
  go_wp2_with fail
  refine HWD.out.mono ?_
  rintro e w2 ⟨rfl, hb2⟩
  have HP := Lib.hid (And.intro (HO.out.1.step hb2 rfl) (And.intro (HO.out.2.1.step hb2 rfl (by have := HO.out.1.lt; omega)) (And.intro (HO.out.2.2.1.step hb2 rfl (by have := HO.out.1.lt; omega)) (And.intro (HO.out.2.2.2.1.below hb2) (below_then HO.out.2.2.2.2 hb2)))))
  clear HO HWD px0 px1 hb2
  obtain ⟨px0, px1⟩ := id HP.out.2.1
  have hsg := RSign_any _ z k w2 ⟨b, A, c, ds, rfl, H.out.2.2.2.2.1, HP.out.2.2.2.1⟩ (by omega) H.out.2.2.2.2.2.2.2.1
  rw [H.out.2.2.2.2.2.2.2.2.2] at hsg
  have HG := Lib.hid hsg
  clear hsg
  go_wp2_with fail
  refine HG.out.mono ?_
  rintro e ws0 ⟨rfl, hb⟩
  have HS0 := Lib.hid (And.intro (HP.out.1.step hb rfl) (And.intro (HP.out.2.1.step hb rfl (by have := HP.out.1.lt; omega)) (And.intro (HP.out.2.2.1.step hb rfl (by have := HP.out.1.lt; omega)) (And.intro (HP.out.2.2.2.1.below hb) (below_then HP.out.2.2.2.2 hb)))))
  clear px0 px1 HG hb HP
  obtain ⟨px0, px1⟩ := id HS0.out.2.1
  have hsg := RSign_any _ z k ws0 ⟨b, A, c, ds, rfl, H.out.2.2.2.2.1, HS0.out.2.2.2.1⟩ (by omega) H.out.2.2.2.2.2.2.2.1
  rw [H.out.2.2.2.2.2.2.2.2.2] at hsg
  have HG := Lib.hid hsg
  clear hsg
  go_wp2_with fail
  refine HG.out.mono ?_
  rintro e ws1 ⟨rfl, hb⟩
  have HS1 := Lib.hid (And.intro (HS0.out.1.step hb rfl) (And.intro (HS0.out.2.1.step hb rfl (by have := HS0.out.1.lt; omega)) (And.intro (HS0.out.2.2.1.step hb rfl (by have := HS0.out.1.lt; omega)) (And.intro (HS0.out.2.2.2.1.below hb) (below_then HS0.out.2.2.2.2 hb)))))
  clear px0 px1 HG hb HS0
  have o5 := HS1.out.1
  have r5 := HS1.out.2.2.1
  obtain ⟨q0, q1⟩ := id o5.two
  obtain ⟨px0, px1⟩ := id HS1.out.2.1
  obtain ⟨⟨hr0, hr1⟩, hf0, hf1⟩ := id r5
  go_wp2
  have q := r5.1.stored (.bool b) (.slice A ds.length c)
  obtain ⟨s0, s1⟩ := id q
  refine bodyPost_ret (v := .tuple #[.agg #[.bool b, .slice A ds.length c], .int .i64 0]) (by simp [results, Try.results47, go_sem, s0, s1]) rfl ?_
  exact refE_stored r5 H.out.2.2.2.2.1 HS1.out.2.2.2.1 HS1.out.2.2.2.2 (by omega)

set_option maxRecDepth 100000 in
set_option maxHeartbeats 1000000 in
theorem rpower_neg (v : Value) (z n : Int) (w : World) (h : RefAt w v z) (hn : n < 0) : Calls Try.prog 47 #[v, .int .i64 n] w fun e w' => IsRE w w' 0 1 e := by
  obtain ⟨b, A, c, ds, rfl, hs, hd⟩ := h
  have hb0 := begun1_below w (.bool b) (.slice A ds.length c) 31
  have hR := begun1_r w (.bool b) (.slice A ds.length c) 31
  obtain ⟨W, hW⟩ : ∃ W, begun1 w (.bool b) (.slice A ds.length c) 31 = W := ⟨_, rfl⟩
  rw [hW] at hb0 hR
  unfold begun1 at hW
  have H := Lib.hid (And.intro hb0 (And.intro hR hW))
  obtain ⟨⟨hr0, hr1⟩, hf0, hf1⟩ := id hR
  clear hb0 hR hW hs hd
  go_enter Try.func47, Try.ntmps47
  go_upto_region 1 with fail
  rw [H.out.2.2]
  go_wp2
  have q := H.out.2.1.1.stored (.bool false) (.slice none 0 0)
  obtain ⟨q0, q1⟩ := id q
  refine bodyPost_ret (v := .tuple #[.agg #[.bool false, .slice none 0 0], .int .i64 1]) (by simp [results, Try.results47, go_sem, q0, q1]) rfl ?_
  exact refE_stored (zs := []) H.out.2.1 (by simp [SignOf]) ⟨Nat.le_refl _, Nums.nil _ _ _, Lm.Ok.nil _, Lm.Top.nil, rfl⟩ H.out.1 (by omega)
end Go.Proofs.Ytagocllbfbbneaa
