/- What Shift of the reference does. -/
import Derived.Test.YtagocllbfbbneaaRFloor
namespace Go.Proofs.Ytagocllbfbbneaa.RK
open Go.RowKit
set_option linter.unusedSimpArgs false

theorem rlength_is (v : Value) (x : Int) (l m : Nat) (w : World) (h : RefAt w v x) (hm0 : 0 < m) (hm : m ≤ 900000) (hx : FitD x m) (hl : bl (magOf x) = l) : Calls Try.prog 27 #[v] w fun e w' => IsNum w w' (l : Int) e := by
  subst hl
  exact RLength_any v x m w h hm0 hm hx
theorem two_fit {k m : Nat} (h : k < 16 * m) : FitD ((2 : Int) ^ k) m := by
  unfold FitD
  rw [Int.natAbs_pow, show (2 : Int).natAbs = 2 from rfl, show BD = 2 ^ 16 from rfl, ← Nat.pow_mul]
  exact Nat.pow_lt_pow_right (by decide) h
theorem two_cast (k : Nat) : ((2 ^ k : Nat) : Int) = (2 : Int) ^ k := by simp
theorem fit_bl {z : Int} {m : Nat} (h : FitD z m) : bl z.natAbs ≤ 16 * m := by
  refine bl_le.2 ?_
  unfold FitD at h
  rw [show BD = 2 ^ 16 from rfl, ← Nat.pow_mul] at h
  exact h
theorem rfloor_is (v1 v2 : Value) (x y a : Int) (m : Nat) (w : World) (h1 : RefAt w v1 x) (h2 : RefAt w v2 y) (hm : m ≤ 90000) (hm0 : 0 < m) (hx : FitD x m) (hy : FitD y m) (h0 : 0 < y) (ha : x / y = a) :
    Calls Try.prog 106 #[v1, v2] w fun e w' => IsRef w w' a e := by
  subst ha
  exact RFloor_some v1 v2 x y m w h1 h2 hm hm0 hx hy h0

set_option maxRecDepth 100000 in
set_option maxHeartbeats 4000000 in
theorem rshift_zero (b : Bool) (A : Option Addr) (c : Nat) (ds : List Nat) (z : Int) (n : Int) (h0 : z = 0) (m : Nat) (w : World) (hs : SignOf b z) (hd : Digs w A c ds z.natAbs) (hz : FitD z m) (hm0 : 0 < m) (hm : m ≤ 4000) :
    Calls Try.prog 55 #[.agg #[.bool b, .slice A ds.length c], .int .i64 n] w fun e w' => IsRE w w' (0) 0 e := by
  have hb0 := begun1_below w (.bool b) (.slice A ds.length c) 31
  have hT := begun1_x w (.bool b) (.slice A ds.length c) 31
  have hR := begun1_r w (.bool b) (.slice A ds.length c) 31
  have hsz := begun1_size w (.bool b) (.slice A ds.length c) 31
  obtain ⟨W, hW⟩ : ∃ W, begun1 w (.bool b) (.slice A ds.length c) 31 = W := ⟨_, rfl⟩
  rw [hW] at hb0 hT hR hsz
  unfold begun1 at hW
  have hat : RefAt W (.agg #[.bool b, .slice A ds.length c]) z := ⟨b, A, c, ds, rfl, hs, hd.below hb0⟩
  obtain ⟨sg, hsg⟩ : ∃ s, z.sign = s := ⟨_, rfl⟩
  have hsig := rsign_is _ z sg m W hat (by omega) hz hsg
  have hsg0 : sg = 0 := by rw [← hsg, h0]; rfl
  subst hsg0
  subst h0
  have H := Lib.hid (And.intro hb0 (And.intro hR (And.intro hW (And.intro hT (And.intro hat (And.intro hsig (And.intro hz hs)))))))
  have hs2 : w.heap.size + 2 ≤ W.heap.size := by omega
  obtain ⟨px0, px1⟩ := id hT
  clear hb0 hT hR hW hs hd hsz hsig hsg hz hat
  go_enter Try.func55, Try.ntmps55
  go_upto_region 1 with fail
  rw [H.out.2.2.1]
  go_wp2_with fail
  refine H.out.2.2.2.2.2.1.mono ?_
  rintro e w1 ⟨rfl, hb1⟩
  have HP := Lib.hid (And.intro (H.out.2.2.2.1.step hb1 rfl (by omega)) (And.intro (H.out.2.1.step hb1 rfl (by omega)) (And.intro (H.out.2.2.2.2.1.step hb1 rfl) (below_then H.out.1 hb1))))
  have hs3 : w.heap.size + 2 ≤ w1.heap.size := Nat.le_trans hs2 hb1.size
  clear px0 px1 hb1 hs2
  obtain ⟨px0, px1⟩ := id HP.out.1
  obtain ⟨⟨hr0, hr1⟩, hf0, hf1⟩ := id HP.out.2.1
  go_wp2
  obtain ⟨s0, s1⟩ := HP.out.2.1.1.stored (.bool b) (.slice A ds.length c)
  refine bodyPost_ret (v := .tuple #[.agg #[.bool b, .slice A ds.length c], .int .i64 0]) (by simp [results, Try.results55, go_sem, s0, s1]) rfl ?_
  exact refE_put HP.out.2.1 HP.out.2.2.1 HP.out.2.2.2 (by omega)

set_option maxRecDepth 100000 in
set_option maxHeartbeats 4000000 in
theorem rshift_big (b : Bool) (A : Option Addr) (c : Nat) (ds : List Nat) (z : Int) (n : Int) (h0 : z ≠ 0) (hn : 65536 < n) (m : Nat) (w : World) (hs : SignOf b z) (hd : Digs w A c ds z.natAbs) (hz : FitD z m) (hm0 : 0 < m) (hm : m ≤ 4000) :
    Calls Try.prog 55 #[.agg #[.bool b, .slice A ds.length c], .int .i64 n] w fun e w' => IsRE w w' (0) 14 e := by
  have hb0 := begun1_below w (.bool b) (.slice A ds.length c) 31
  have hT := begun1_x w (.bool b) (.slice A ds.length c) 31
  have hR := begun1_r w (.bool b) (.slice A ds.length c) 31
  have hsz := begun1_size w (.bool b) (.slice A ds.length c) 31
  obtain ⟨W, hW⟩ : ∃ W, begun1 w (.bool b) (.slice A ds.length c) 31 = W := ⟨_, rfl⟩
  rw [hW] at hb0 hT hR hsz
  unfold begun1 at hW
  have hat : RefAt W (.agg #[.bool b, .slice A ds.length c]) z := ⟨b, A, c, ds, rfl, hs, hd.below hb0⟩
  obtain ⟨sg, hsg⟩ : ∃ s, z.sign = s := ⟨_, rfl⟩
  have hsig := rsign_is _ z sg m W hat (by omega) hz hsg
  have hne : (sg == 0) = false := by rw [beq_eq_false_iff_ne, ← hsg]; intro h; exact h0 (Int.sign_eq_zero_iff_zero.1 h)
  have hn0 : 0 ≤ n := by omega
  have H := Lib.hid (And.intro hb0 (And.intro hR (And.intro hW (And.intro hT (And.intro hat (And.intro hsig (And.intro hz hs)))))))
  have hs2 : w.heap.size + 2 ≤ W.heap.size := by omega
  obtain ⟨px0, px1⟩ := id hT
  clear hb0 hT hR hW hs hd hsz hsig hsg hz hat
  go_enter Try.func55, Try.ntmps55
  go_upto_region 1 with fail
  rw [H.out.2.2.1]
  go_wp2_with fail
  refine H.out.2.2.2.2.2.1.mono ?_
  rintro e w1 ⟨rfl, hb1⟩
  have HP := Lib.hid (And.intro (H.out.2.2.2.1.step hb1 rfl (by omega)) (And.intro (H.out.2.1.step hb1 rfl (by omega)) (And.intro (H.out.2.2.2.2.1.step hb1 rfl) (below_then H.out.1 hb1))))
  have hs3 : w.heap.size + 2 ≤ w1.heap.size := Nat.le_trans hs2 hb1.size
  clear px0 px1 hb1 hs2
  obtain ⟨px0, px1⟩ := id HP.out.1
  obtain ⟨⟨hr0, hr1⟩, hf0, hf1⟩ := id HP.out.2.1
  go_wp2
  obtain ⟨s0, s1⟩ := HP.out.2.1.1.stored (.bool false) (.slice none 0 0)
  refine bodyPost_ret (v := .tuple #[.agg #[.bool false, .slice none 0 0], .int .i64 14]) (by simp [results, Try.results55, go_sem, s0, s1]) rfl ?_
  exact refE_stored (zs := []) HP.out.2.1 (by simp [SignOf]) ⟨Nat.le_refl _, Nums.nil _ _ _, Lm.Ok.nil _, Lm.Top.nil, rfl⟩ HP.out.2.2.2 (by omega)

set_option maxRecDepth 100000 in
set_option maxHeartbeats 4000000 in
theorem rshift_large (b : Bool) (A : Option Addr) (c : Nat) (ds : List Nat) (z : Int) (k l : Nat) (h0 : z ≠ 0) (hk : k ≤ 65536) (hl : bl (magOf z) = l) (hll : l ≤ 65536) (hn : 65536 < l + k) (m : Nat) (w : World) (hs : SignOf b z) (hd : Digs w A c ds z.natAbs) (hz : FitD z m) (hm0 : 0 < m) (hm : m ≤ 4000) :
    Calls Try.prog 55 #[.agg #[.bool b, .slice A ds.length c], .int .i64 (k : Int)] w fun e w' => IsRE w w' (0) 14 e := by
  have hb0 := begun1_below w (.bool b) (.slice A ds.length c) 31
  have hT := begun1_x w (.bool b) (.slice A ds.length c) 31
  have hR := begun1_r w (.bool b) (.slice A ds.length c) 31
  have hsz := begun1_size w (.bool b) (.slice A ds.length c) 31
  obtain ⟨W, hW⟩ : ∃ W, begun1 w (.bool b) (.slice A ds.length c) 31 = W := ⟨_, rfl⟩
  rw [hW] at hb0 hT hR hsz
  unfold begun1 at hW
  have hat : RefAt W (.agg #[.bool b, .slice A ds.length c]) z := ⟨b, A, c, ds, rfl, hs, hd.below hb0⟩
  obtain ⟨sg, hsg⟩ : ∃ s, z.sign = s := ⟨_, rfl⟩
  have hsig := rsign_is _ z sg m W hat (by omega) hz hsg
  have hne : (sg == 0) = false := by rw [beq_eq_false_iff_ne, ← hsg]; intro h; exact h0 (Int.sign_eq_zero_iff_zero.1 h)
  have k0 : (0 : Int) ≤ (k : Int) := Int.natCast_nonneg k
  have k1 : (k : Int) ≤ 65536 := by omega
  have hnI : (65536 : Int) < (l : Int) + (k : Int) := by omega
  have l1 : (l : Int) ≤ 65536 := by omega
  clear hn hk hll
  have H := Lib.hid (And.intro hb0 (And.intro hR (And.intro hW (And.intro hT (And.intro hat (And.intro hsig (And.intro hz hs)))))))
  have hs2 : w.heap.size + 2 ≤ W.heap.size := by omega
  obtain ⟨px0, px1⟩ := id hT
  clear hb0 hT hR hW hs hd hsz hsig hsg hz hat
  go_enter Try.func55, Try.ntmps55
  go_upto_region 1 with fail
  rw [H.out.2.2.1]
  go_wp2_with fail
  refine H.out.2.2.2.2.2.1.mono ?_
  rintro e w1 ⟨rfl, hb1⟩
  have HP := Lib.hid (And.intro (H.out.2.2.2.1.step hb1 rfl (by omega)) (And.intro (H.out.2.1.step hb1 rfl (by omega)) (And.intro (H.out.2.2.2.2.1.step hb1 rfl) (below_then H.out.1 hb1))))
  have hs3 : w.heap.size + 2 ≤ w1.heap.size := Nat.le_trans hs2 hb1.size
  clear px0 px1 hb1 hs2
  obtain ⟨px0, px1⟩ := id HP.out.1
  have hln := rlength_is _ z l m w1 HP.out.2.2.1 hm0 (by omega) H.out.2.2.2.2.2.2.1 hl
  have HL := Lib.hid hln
  have l0 : (0 : Int) ≤ (l : Int) := Int.natCast_nonneg l
  clear hln hl
  go_wp2_with fail
  refine HL.out.mono ?_
  rintro e w2 ⟨rfl, hb2⟩
  have HQ := Lib.hid (And.intro (HP.out.1.step hb2 rfl (by omega)) (And.intro (HP.out.2.1.step hb2 rfl (by omega)) (And.intro (HP.out.2.2.1.step hb2 rfl) (below_then HP.out.2.2.2 hb2))))
  have hs4 : w.heap.size + 2 ≤ w2.heap.size := Nat.le_trans hs3 hb2.size
  clear px0 px1 hb2
  obtain ⟨⟨hr0, hr1⟩, hf0, hf1⟩ := id HQ.out.2.1
  go_wp2
  obtain ⟨s0, s1⟩ := HQ.out.2.1.1.stored (.bool false) (.slice none 0 0)
  refine bodyPost_ret (v := .tuple #[.agg #[.bool false, .slice none 0 0], .int .i64 14]) (by simp [results, Try.results55, go_sem, s0, s1]) rfl ?_
  exact refE_stored (zs := []) HQ.out.2.1 (by simp [SignOf]) ⟨Nat.le_refl _, Nums.nil _ _ _, Lm.Ok.nil _, Lm.Top.nil, rfl⟩ HQ.out.2.2.2 (by omega)

set_option maxRecDepth 100000 in
set_option maxHeartbeats 4000000 in
theorem rshift_up (b : Bool) (A : Option Addr) (c : Nat) (ds : List Nat) (z : Int) (k l : Nat) (h0 : z ≠ 0) (hk : k ≤ 65536) (hl : bl (magOf z) = l) (hn : l + k ≤ 65536) (t a : Int) (ht : (2 : Int) ^ k = t) (ha : z * t = a) (m : Nat) (w : World) (hs : SignOf b z) (hd : Digs w A c ds z.natAbs) (hz : FitD z m) (hm0 : 0 < m) (hm : m ≤ 4000) :
    Calls Try.prog 55 #[.agg #[.bool b, .slice A ds.length c], .int .i64 (k : Int)] w fun e w' => IsRE w w' (a) 0 e := by
  have hb0 := begun1_below w (.bool b) (.slice A ds.length c) 31
  have hT := begun1_x w (.bool b) (.slice A ds.length c) 31
  have hR := begun1_r w (.bool b) (.slice A ds.length c) 31
  have hsz := begun1_size w (.bool b) (.slice A ds.length c) 31
  obtain ⟨W, hW⟩ : ∃ W, begun1 w (.bool b) (.slice A ds.length c) 31 = W := ⟨_, rfl⟩
  rw [hW] at hb0 hT hR hsz
  unfold begun1 at hW
  have hat : RefAt W (.agg #[.bool b, .slice A ds.length c]) z := ⟨b, A, c, ds, rfl, hs, hd.below hb0⟩
  obtain ⟨sg, hsg⟩ : ∃ s, z.sign = s := ⟨_, rfl⟩
  have hsig := rsign_is _ z sg m W hat (by omega) hz hsg
  have hne : (sg == 0) = false := by rw [beq_eq_false_iff_ne, ← hsg]; intro h; exact h0 (Int.sign_eq_zero_iff_zero.1 h)
  have k0 : (0 : Int) ≤ (k : Int) := Int.natCast_nonneg k
  have k1 : (k : Int) ≤ 65536 := by omega
  have hnI : (l : Int) + (k : Int) ≤ 65536 := by omega
  have l1 : (l : Int) ≤ 65536 := by omega
  have hft : FitD t 5000 := by rw [← ht]; exact two_fit (by omega)
  clear hn
  have H := Lib.hid (And.intro hb0 (And.intro hR (And.intro hW (And.intro hT (And.intro hat (And.intro hsig (And.intro hz hs)))))))
  have hs2 : w.heap.size + 2 ≤ W.heap.size := by omega
  obtain ⟨px0, px1⟩ := id hT
  clear hb0 hT hR hW hs hd hsz hsig hsg hz hat
  go_enter Try.func55, Try.ntmps55
  go_upto_region 1 with fail
  rw [H.out.2.2.1]
  go_wp2_with fail
  refine H.out.2.2.2.2.2.1.mono ?_
  rintro e w1 ⟨rfl, hb1⟩
  have HP := Lib.hid (And.intro (H.out.2.2.2.1.step hb1 rfl (by omega)) (And.intro (H.out.2.1.step hb1 rfl (by omega)) (And.intro (H.out.2.2.2.2.1.step hb1 rfl) (below_then H.out.1 hb1))))
  have hs3 : w.heap.size + 2 ≤ w1.heap.size := Nat.le_trans hs2 hb1.size
  clear px0 px1 hb1 hs2
  obtain ⟨px0, px1⟩ := id HP.out.1
  have hln := rlength_is _ z l m w1 HP.out.2.2.1 hm0 (by omega) H.out.2.2.2.2.2.2.1 hl
  have HL := Lib.hid hln
  have l0 : (0 : Int) ≤ (l : Int) := Int.natCast_nonneg l
  clear hln hl
  go_wp2_with fail
  refine HL.out.mono ?_
  rintro e w2 ⟨rfl, hb2⟩
  have HQ := Lib.hid (And.intro (HP.out.1.step hb2 rfl (by omega)) (And.intro (HP.out.2.1.step hb2 rfl (by omega)) (And.intro (HP.out.2.2.1.step hb2 rfl) (below_then HP.out.2.2.2 hb2))))
  have hs4 : w.heap.size + 2 ≤ w2.heap.size := Nat.le_trans hs3 hb2.size
  clear px0 px1 hb2
  obtain ⟨px0, px1⟩ := id HQ.out.1
  go_upto_region 6 with fail
  go_region_held3 (fun w' => w'.cell? ⟨w.heap.size, 0, none⟩ = some (.bool b) ∧ w'.cell? ⟨w.heap.size, 1, none⟩ = some (.slice A ds.length c))
    (((try dsimp only); (repeat' apply And.intro) <;> (first | (with_reducible assumption) | go_keep)))
    ((first
      | (go_at_call 98; refine (rtwo_is k t _ (by omega) ht).mono ?_; rintro e w3 ⟨v3, rfl, hv3, hb3⟩; have t3 := HQ.out.1.step hb3 rfl (by omega); have r3 := HQ.out.2.1.step hb3 rfl (by omega); have x3 := HQ.out.2.2.1.step hb3 rfl; have hl3 := begun_then HQ.out.2.2.2 hb3 rfl rfl rfl rfl; have hs5 : w.heap.size + 2 ≤ w3.heap.size := Nat.le_trans hs4 hb3.size; obtain ⟨qa0, qa1⟩ := id t3)
      | (go_at_call 43; refine (rmul_is _ _ z t a m 5000 _ (by exact x3) (by exact hv3) (by omega) H.out.2.2.2.2.2.2.1 (by omega) hft ha).mono ?_; rintro e w5 ⟨v5, rfl, hv5, hb5⟩; have t5 := t3.step hb5 rfl (by omega); have r5 := r3.step hb5 rfl (by omega); have hl5 := below_then hl3 hb5; obtain ⟨qb0, qb1⟩ := id t5; obtain ⟨⟨p40, p41⟩, f40, f41⟩ := id r5; obtain ⟨b6, A6, c6, d6, rfl, g6, l6⟩ := id hv5; have m1 := t5.far (r := w.heap.size + 1) (by omega) (.bool b6) (.slice A6 d6.length c6); obtain ⟨m1a, m1b⟩ := id m1)))
  go_wp2
  obtain ⟨s0, s1⟩ := r5.1.stored (.bool b6) (.slice A6 d6.length c6)
  refine bodyPost_ret (v := .tuple #[.agg #[.bool b6, .slice A6 d6.length c6], .int .i64 0]) (by simp [results, Try.results55, go_sem, s0, s1]) rfl ?_
  exact refE_stored r5 g6 l6 hl5 (by omega)

set_option maxRecDepth 100000 in
set_option maxHeartbeats 4000000 in
theorem rshift_farn (b : Bool) (A : Option Addr) (c : Nat) (ds : List Nat) (z : Int) (n : Int) (l : Nat) (h0 : z ≠ 0) (hneg : z < 0) (hl : bl z.natAbs = l) (hl1 : l ≤ 65536) (hn : n < -(l : Int)) (m : Nat) (w : World) (hs : SignOf b z) (hd : Digs w A c ds z.natAbs) (hz : FitD z m) (hm0 : 0 < m) (hm : m ≤ 4000) :
    Calls Try.prog 55 #[.agg #[.bool b, .slice A ds.length c], .int .i64 n] w fun e w' => IsRE w w' ((-1 : Int)) 0 e := by
  have hb0 := begun1_below w (.bool b) (.slice A ds.length c) 31
  have hT := begun1_x w (.bool b) (.slice A ds.length c) 31
  have hR := begun1_r w (.bool b) (.slice A ds.length c) 31
  have hsz := begun1_size w (.bool b) (.slice A ds.length c) 31
  obtain ⟨W, hW⟩ : ∃ W, begun1 w (.bool b) (.slice A ds.length c) 31 = W := ⟨_, rfl⟩
  rw [hW] at hb0 hT hR hsz
  unfold begun1 at hW
  have hat : RefAt W (.agg #[.bool b, .slice A ds.length c]) z := ⟨b, A, c, ds, rfl, hs, hd.below hb0⟩
  obtain ⟨sg, hsg⟩ : ∃ s, z.sign = s := ⟨_, rfl⟩
  have hsig := rsign_is _ z sg m W hat (by omega) hz hsg
  have hne : (sg == 0) = false := by rw [beq_eq_false_iff_ne, ← hsg]; intro h; exact h0 (Int.sign_eq_zero_iff_zero.1 h)
  have hnn : n < 0 := by omega
  have hbb : b = true := by unfold SignOf at hs; rw [hs]; simp; omega
  subst hbb
  have l1 : (l : Int) ≤ 65536 := by omega
  clear hneg hl1
  have H := Lib.hid (And.intro hb0 (And.intro hR (And.intro hW (And.intro hT (And.intro hat (And.intro hsig (And.intro hz hs)))))))
  have hs2 : w.heap.size + 2 ≤ W.heap.size := by omega
  obtain ⟨px0, px1⟩ := id hT
  clear hb0 hT hR hW hs hd hsz hsig hsg hz hat
  go_enter Try.func55, Try.ntmps55
  go_upto_region 1 with fail
  rw [H.out.2.2.1]
  go_wp2_with fail
  refine H.out.2.2.2.2.2.1.mono ?_
  rintro e w1 ⟨rfl, hb1⟩
  have HP := Lib.hid (And.intro (H.out.2.2.2.1.step hb1 rfl (by omega)) (And.intro (H.out.2.1.step hb1 rfl (by omega)) (And.intro (H.out.2.2.2.2.1.step hb1 rfl) (below_then H.out.1 hb1))))
  have hs3 : w.heap.size + 2 ≤ w1.heap.size := Nat.le_trans hs2 hb1.size
  clear px0 px1 hb1 hs2
  obtain ⟨px0, px1⟩ := id HP.out.1
  have hln := rwidth_is _ z l m w1 HP.out.2.2.1 (by omega) H.out.2.2.2.2.2.2.1 hl
  have HL := Lib.hid hln
  have l0 : (0 : Int) ≤ (l : Int) := Int.natCast_nonneg l
  clear hln hl
  go_wp2_with fail
  refine HL.out.mono ?_
  rintro e w2 ⟨rfl, hb2⟩
  have HQ := Lib.hid (And.intro (HP.out.1.step hb2 rfl (by omega)) (And.intro (HP.out.2.1.step hb2 rfl (by omega)) (And.intro (HP.out.2.2.1.step hb2 rfl) (below_then HP.out.2.2.2 hb2))))
  have hs4 : w.heap.size + 2 ≤ w2.heap.size := Nat.le_trans hs3 hb2.size
  clear px0 px1 hb2
  obtain ⟨px0, px1⟩ := id HQ.out.1
  go_wp2_with fail
  refine (RNew_neg 1 w2 (by decide) (by decide)).mono ?_
  rintro e w3 ⟨v3, rfl, hv3, hb3⟩
  have HE := Lib.hid (And.intro (HQ.out.2.1.step hb3 rfl (by omega)) (below_then HQ.out.2.2.2 hb3))
  clear px0 px1 hb3
  obtain ⟨b6, A6, c6, d6, rfl, g6, l6⟩ := id hv3
  obtain ⟨⟨hr0, hr1⟩, hf0, hf1⟩ := id HE.out.1
  go_wp2
  obtain ⟨s0, s1⟩ := HE.out.1.1.stored (.bool b6) (.slice A6 d6.length c6)
  refine bodyPost_ret (v := .tuple #[.agg #[.bool b6, .slice A6 d6.length c6], .int .i64 0]) (by simp [results, Try.results55, go_sem, s0, s1]) rfl ?_
  exact refE_put HE.out.1 hv3 HE.out.2 (by omega)

set_option maxRecDepth 100000 in
set_option maxHeartbeats 4000000 in
theorem rshift_farp (b : Bool) (A : Option Addr) (c : Nat) (ds : List Nat) (z : Int) (n : Int) (l : Nat) (h0 : z ≠ 0) (hneg : ¬ z < 0) (hl : bl z.natAbs = l) (hl1 : l ≤ 65536) (hn : n < -(l : Int)) (m : Nat) (w : World) (hs : SignOf b z) (hd : Digs w A c ds z.natAbs) (hz : FitD z m) (hm0 : 0 < m) (hm : m ≤ 4000) :
    Calls Try.prog 55 #[.agg #[.bool b, .slice A ds.length c], .int .i64 n] w fun e w' => IsRE w w' ((0 : Int)) 0 e := by
  have hb0 := begun1_below w (.bool b) (.slice A ds.length c) 31
  have hT := begun1_x w (.bool b) (.slice A ds.length c) 31
  have hR := begun1_r w (.bool b) (.slice A ds.length c) 31
  have hsz := begun1_size w (.bool b) (.slice A ds.length c) 31
  obtain ⟨W, hW⟩ : ∃ W, begun1 w (.bool b) (.slice A ds.length c) 31 = W := ⟨_, rfl⟩
  rw [hW] at hb0 hT hR hsz
  unfold begun1 at hW
  have hat : RefAt W (.agg #[.bool b, .slice A ds.length c]) z := ⟨b, A, c, ds, rfl, hs, hd.below hb0⟩
  obtain ⟨sg, hsg⟩ : ∃ s, z.sign = s := ⟨_, rfl⟩
  have hsig := rsign_is _ z sg m W hat (by omega) hz hsg
  have hne : (sg == 0) = false := by rw [beq_eq_false_iff_ne, ← hsg]; intro h; exact h0 (Int.sign_eq_zero_iff_zero.1 h)
  have hnn : n < 0 := by omega
  have hbb : b = false := by unfold SignOf at hs; rw [hs]; simp; omega
  subst hbb
  have l1 : (l : Int) ≤ 65536 := by omega
  clear hneg hl1
  have H := Lib.hid (And.intro hb0 (And.intro hR (And.intro hW (And.intro hT (And.intro hat (And.intro hsig (And.intro hz hs)))))))
  have hs2 : w.heap.size + 2 ≤ W.heap.size := by omega
  obtain ⟨px0, px1⟩ := id hT
  clear hb0 hT hR hW hs hd hsz hsig hsg hz hat
  go_enter Try.func55, Try.ntmps55
  go_upto_region 1 with fail
  rw [H.out.2.2.1]
  go_wp2_with fail
  refine H.out.2.2.2.2.2.1.mono ?_
  rintro e w1 ⟨rfl, hb1⟩
  have HP := Lib.hid (And.intro (H.out.2.2.2.1.step hb1 rfl (by omega)) (And.intro (H.out.2.1.step hb1 rfl (by omega)) (And.intro (H.out.2.2.2.2.1.step hb1 rfl) (below_then H.out.1 hb1))))
  have hs3 : w.heap.size + 2 ≤ w1.heap.size := Nat.le_trans hs2 hb1.size
  clear px0 px1 hb1 hs2
  obtain ⟨px0, px1⟩ := id HP.out.1
  have hln := rwidth_is _ z l m w1 HP.out.2.2.1 (by omega) H.out.2.2.2.2.2.2.1 hl
  have HL := Lib.hid hln
  have l0 : (0 : Int) ≤ (l : Int) := Int.natCast_nonneg l
  clear hln hl
  go_wp2_with fail
  refine HL.out.mono ?_
  rintro e w2 ⟨rfl, hb2⟩
  have HQ := Lib.hid (And.intro (HP.out.1.step hb2 rfl (by omega)) (And.intro (HP.out.2.1.step hb2 rfl (by omega)) (And.intro (HP.out.2.2.1.step hb2 rfl) (below_then HP.out.2.2.2 hb2))))
  have hs4 : w.heap.size + 2 ≤ w2.heap.size := Nat.le_trans hs3 hb2.size
  clear px0 px1 hb2
  obtain ⟨px0, px1⟩ := id HQ.out.1
  go_wp2_with fail
  refine (RNew_pos 0 w2 (by decide)).mono ?_
  rintro e w3 ⟨v3, rfl, hv3, hb3⟩
  have HE := Lib.hid (And.intro (HQ.out.2.1.step hb3 rfl (by omega)) (below_then HQ.out.2.2.2 hb3))
  clear px0 px1 hb3
  obtain ⟨b6, A6, c6, d6, rfl, g6, l6⟩ := id hv3
  obtain ⟨⟨hr0, hr1⟩, hf0, hf1⟩ := id HE.out.1
  go_wp2
  obtain ⟨s0, s1⟩ := HE.out.1.1.stored (.bool b6) (.slice A6 d6.length c6)
  refine bodyPost_ret (v := .tuple #[.agg #[.bool b6, .slice A6 d6.length c6], .int .i64 0]) (by simp [results, Try.results55, go_sem, s0, s1]) rfl ?_
  exact refE_put HE.out.1 hv3 HE.out.2 (by omega)

set_option maxRecDepth 100000 in
set_option maxHeartbeats 4000000 in
theorem rshift_down (b : Bool) (A : Option Addr) (c : Nat) (ds : List Nat) (z : Int) (k l : Nat) (h0 : z ≠ 0) (hk0 : 0 < k) (hl : bl z.natAbs = l) (hkl : k ≤ l) (hl1 : l ≤ 65536) (t a : Int) (ht : (2 : Int) ^ k = t) (ha : z / t = a) (m : Nat) (w : World) (hs : SignOf b z) (hd : Digs w A c ds z.natAbs) (hz : FitD z m) (hm0 : 0 < m) (hm : m ≤ 4000) :
    Calls Try.prog 55 #[.agg #[.bool b, .slice A ds.length c], .int .i64 (-(k : Int))] w fun e w' => IsRE w w' (a) 0 e := by
  have hb0 := begun1_below w (.bool b) (.slice A ds.length c) 31
  have hT := begun1_x w (.bool b) (.slice A ds.length c) 31
  have hR := begun1_r w (.bool b) (.slice A ds.length c) 31
  have hsz := begun1_size w (.bool b) (.slice A ds.length c) 31
  obtain ⟨W, hW⟩ : ∃ W, begun1 w (.bool b) (.slice A ds.length c) 31 = W := ⟨_, rfl⟩
  rw [hW] at hb0 hT hR hsz
  unfold begun1 at hW
  have hat : RefAt W (.agg #[.bool b, .slice A ds.length c]) z := ⟨b, A, c, ds, rfl, hs, hd.below hb0⟩
  obtain ⟨sg, hsg⟩ : ∃ s, z.sign = s := ⟨_, rfl⟩
  have hsig := rsign_is _ z sg m W hat (by omega) hz hsg
  have hne : (sg == 0) = false := by rw [beq_eq_false_iff_ne, ← hsg]; intro h; exact h0 (Int.sign_eq_zero_iff_zero.1 h)
  have k0 : (0 : Int) < (k : Int) := by omega
  have l1 : (l : Int) ≤ 65536 := by omega
  have hklI : (k : Int) ≤ (l : Int) := by omega
  have hwk : IntKind.i64.wrap (k : Int) = (k : Int) := IntWalk.i64_in _ (by omega)
  have hft : FitD t 5000 := by rw [← ht]; exact two_fit (by omega)
  have htp : 0 < t := by rw [← ht]; exact Int.pow_pos (by decide)
  have hz5 : FitD z 5000 := hz.up (by omega)
  clear hl1 hkl hk0
  have H := Lib.hid (And.intro hb0 (And.intro hR (And.intro hW (And.intro hT (And.intro hat (And.intro hsig (And.intro hz hs)))))))
  have hs2 : w.heap.size + 2 ≤ W.heap.size := by omega
  obtain ⟨px0, px1⟩ := id hT
  clear hb0 hT hR hW hs hd hsz hsig hsg hz hat
  go_enter Try.func55, Try.ntmps55
  go_upto_region 1 with fail
  rw [H.out.2.2.1]
  go_wp2_with fail
  refine H.out.2.2.2.2.2.1.mono ?_
  rintro e w1 ⟨rfl, hb1⟩
  have HP := Lib.hid (And.intro (H.out.2.2.2.1.step hb1 rfl (by omega)) (And.intro (H.out.2.1.step hb1 rfl (by omega)) (And.intro (H.out.2.2.2.2.1.step hb1 rfl) (below_then H.out.1 hb1))))
  have hs3 : w.heap.size + 2 ≤ w1.heap.size := Nat.le_trans hs2 hb1.size
  clear px0 px1 hb1 hs2
  obtain ⟨px0, px1⟩ := id HP.out.1
  have hln := rwidth_is _ z l m w1 HP.out.2.2.1 (by omega) H.out.2.2.2.2.2.2.1 hl
  have HL := Lib.hid hln
  have l0 : (0 : Int) ≤ (l : Int) := Int.natCast_nonneg l
  clear hln hl
  go_wp2_with fail
  refine HL.out.mono ?_
  rintro e w2 ⟨rfl, hb2⟩
  have HQ := Lib.hid (And.intro (HP.out.1.step hb2 rfl (by omega)) (And.intro (HP.out.2.1.step hb2 rfl (by omega)) (And.intro (HP.out.2.2.1.step hb2 rfl) (below_then HP.out.2.2.2 hb2))))
  have hs4 : w.heap.size + 2 ≤ w2.heap.size := Nat.le_trans hs3 hb2.size
  clear px0 px1 hb2
  obtain ⟨px0, px1⟩ := id HQ.out.1
  go_upto_region 11 with fail
  go_region_held3 (fun w' => w'.cell? ⟨w.heap.size, 0, none⟩ = some (.bool b) ∧ w'.cell? ⟨w.heap.size, 1, none⟩ = some (.slice A ds.length c))
    (((try dsimp only); (repeat' apply And.intro) <;> (first | (with_reducible assumption) | go_keep)))
    ((first
      | (go_at_call 98; refine (rtwo_is k t _ (by omega) ht).mono ?_; rintro e w3 ⟨v3, rfl, hv3, hb3⟩; have t3 := HQ.out.1.step hb3 rfl (by omega); have r3 := HQ.out.2.1.step hb3 rfl (by omega); have x3 := HQ.out.2.2.1.step hb3 rfl; have hl3 := begun_then HQ.out.2.2.2 hb3 rfl rfl rfl rfl; have hs5 : w.heap.size + 2 ≤ w3.heap.size := Nat.le_trans hs4 hb3.size; obtain ⟨qa0, qa1⟩ := id t3)
      | (go_at_call 106; refine (rfloor_is _ _ z t a 5000 _ (by exact x3) (by exact hv3) (by omega) (by omega) hz5 hft htp ha).mono ?_; rintro e w5 ⟨v5, rfl, hv5, hb5⟩; have t5 := t3.step hb5 rfl (by omega); have r5 := r3.step hb5 rfl (by omega); have hl5 := below_then hl3 hb5; obtain ⟨qb0, qb1⟩ := id t5; obtain ⟨⟨p40, p41⟩, f40, f41⟩ := id r5; obtain ⟨b6, A6, c6, d6, rfl, g6, l6⟩ := id hv5; have m1 := t5.far (r := w.heap.size + 1) (by omega) (.bool b6) (.slice A6 d6.length c6); obtain ⟨m1a, m1b⟩ := id m1)))
  go_wp2
  obtain ⟨s0, s1⟩ := r5.1.stored (.bool b6) (.slice A6 d6.length c6)
  refine bodyPost_ret (v := .tuple #[.agg #[.bool b6, .slice A6 d6.length c6], .int .i64 0]) (by simp [results, Try.results55, go_sem, s0, s1]) rfl ?_
  exact refE_stored r5 g6 l6 hl5 (by omega)
end Go.Proofs.Ytagocllbfbbneaa.RK
