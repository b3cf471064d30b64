/- The law IntegerLarge: it answers true. -/
import Derived.Test.YtagmdeabneapaaaPowerL
import Derived.Test.YtagmdeabneapaaaLawB
import Derived.Test.YtagmdeabneapaaaAwake
namespace Go.Proofs.Ytagmdeabneapaaa
open Go.RowKit
set_option linter.unusedSimpArgs false

theorem mag_big {z : Int} {K : Nat} (h : 2 ^ (K + 1) ≤ z.natAbs) : K < bl (magOf z) := by
  rcases Nat.lt_or_ge K (bl (magOf z)) with hlt | hge
  · exact hlt
  · have h1 := bl_le.1 hge
    rw [Nat.pow_succ] at h
    have h2 : z.natAbs - 1 ≤ magOf z := by unfold magOf; split <;> omega
    have h3 : 0 < 2 ^ K := Nat.pow_pos (by decide)
    omega
theorem first_big {z : Int} {n K : Nat} (h : K < n * (bl z.natAbs - 1)) : K < bl (magOf (z ^ n)) := by
  have h0 : z.natAbs ≠ 0 := by intro e; rw [e] at h; simp [bl_zero] at h
  have h1 : 2 ^ (bl z.natAbs - 1) ≤ z.natAbs := by
    unfold bl
    rw [if_neg h0]
    exact Nat.log2_self_le h0
  have h2 := Nat.pow_le_pow_left h1 n
  rw [← Nat.pow_mul, Nat.mul_comm] at h2
  refine mag_big ?_
  rw [Int.natAbs_pow]
  exact Nat.le_trans (Nat.pow_le_pow_right (by decide) (by omega)) h2
/-- Power, where the result is not too long. -/
theorem Power_ok (v : Value) (z : Int) (n M : Nat) (w : World) (h : IntAt w v z) (hM : M ≤ 300000) (hz : z.natAbs < B32 ^ M) (h2 : 1 < z.natAbs) (hn : n ≤ 1000000) (hb : bl (magOf (z ^ n)) ≤ 65536) :
    Calls Try.prog 46 #[v, .int .i64 (n : Int)] w fun e w' => IsIE w w' (z ^ n) 0 e := by
  obtain ⟨b, A, c, zs, rfl, hs, hl⟩ := h
  have hlen : zs.length ≤ 300000 := Nat.le_trans (hl.len hz) hM
  rcases Nat.eq_zero_or_pos n with rfl | hpos
  · cases b with
    | false => exact power_false0 A c zs z w hs hl hlen h2
    | true => exact power_true0 A c zs z w hs hl hlen h2
  · by_cases hk : n * (bl z.natAbs - 1) ≤ 65536
    · cases b with
      | false => exact powerL_false A c zs z n w hs hl hlen h2 hpos hn hk hb
      | true =>
        by_cases ho : n % 2 = 1
        · exact powerL_odd A c zs z n w hs hl hlen h2 hpos hn hk ho hb
        · exact powerL_even A c zs z n w hs hl hlen h2 hpos hn hk (by omega) hb
    · have := first_big (z := z) (n := n) (K := 65536) (by omega)
      omega
/-- Power, where the result is too long. -/
theorem Power_big (v : Value) (z : Int) (n M : Nat) (w : World) (h : IntAt w v z) (hM : M ≤ 300000) (hz : z.natAbs < B32 ^ M) (h2 : 1 < z.natAbs) (hn : n ≤ 1000000) (hpos : 0 < n) (hb : 65536 < bl (magOf (z ^ n))) :
    Calls Try.prog 46 #[v, .int .i64 (n : Int)] w fun e w' => IsIE w w' 0 14 e := by
  obtain ⟨b, A, c, zs, rfl, hs, hl⟩ := h
  have hlen : zs.length ≤ 300000 := Nat.le_trans (hl.len hz) hM
  by_cases hk : n * (bl z.natAbs - 1) ≤ 65536
  · cases b with
    | false => exact powerL_false_big A c zs z n w hs hl hlen h2 hpos hn hk hb
    | true =>
      by_cases ho : n % 2 = 1
      · exact powerL_odd_big A c zs z n w hs hl hlen h2 hpos hn hk ho hb
      · exact powerL_even_big A c zs z n w hs hl hlen h2 hpos hn hk (by omega) hb
  · exact powerL_less b A c zs z n w hs hl hlen h2 hpos hn (by omega)

/-- No string shares the variable's cells. -/
def Frz (w : World) (r : Nat) : Prop := w.frozen? ⟨r, 0, none⟩ = false ∧ w.frozen? ⟨r, 1, none⟩ = false
theorem Frz.new (w : World) (a b : Value) (t : TypeId) : Frz (w.alloc (.cells #[a, b] t)) w.heap.size := by
  unfold Frz
  constructor <;> go_simp
theorem Frz.step {w w' : World} {r : Nat} (h : Frz w r) (hb : Below w.heap.size w w') (hl : r < w.heap.size) : Frz w' r :=
  ⟨(hb.frozen (p := ⟨r, 0, none⟩) hl).trans h.1, (hb.frozen (p := ⟨r, 1, none⟩) hl).trans h.2⟩
theorem Nums.stored {w : World} {k : IntKind} {A : Option Addr} {xs : List Nat} (h : Nums w k A xs) {r : Nat} {b : Bool} {B : Option Addr} {n c : Nat} (t : Two w r (.bool b) (.slice B n c)) (u v : Value) : Nums ((w.setCell ⟨r, 0, none⟩ u).setCell ⟨r, 1, none⟩ v) k A xs := by
  refine (h.store t.1 (fun n e => by cases e) _).store (u := .slice B n c) ?_ (fun n e => by cases e) _
  rw [World.cell?_setCell_other _ _ _ _ (by simp)]
  exact t.2
theorem Vars.over1 {W : World} {t o : VarT} (h : Vars W [t, o]) (ho : o.here = true) :
    Vars ((W.setCell ⟨o.r, 0, none⟩ (.bool t.b)).setCell ⟨o.r, 1, none⟩ (.slice t.A t.n t.c)) [⟨true, o.r, t.b, t.A, t.n, t.c, t.z⟩] := by
  have hs : ((W.setCell ⟨o.r, 0, none⟩ (.bool t.b)).setCell ⟨o.r, 1, none⟩ (.slice t.A t.n t.c)).heap.size = W.heap.size := by simp [World.setCell]
  have h2 := (h 1 o rfl).two ho
  have hi : ∀ {v : Value} {z : Int}, IntAt W v z → IntAt ((W.setCell ⟨o.r, 0, none⟩ (.bool t.b)).setCell ⟨o.r, 1, none⟩ (.slice t.A t.n t.c)) v z := fun hv => by
    obtain ⟨b, A, c, zs, e, hsg, hl⟩ := hv
    exact ⟨b, A, c, zs, e, hsg, hl.1, hl.2.1.stored h2 _ _, hl.2.2⟩
  exact (Vars.nil _).cons ⟨fun _ => by rw [hs]; exact (h 1 o rfl).lt ho, fun _ => h2.stored _ _, hi (h 0 t rfl).at_⟩

theorem bl_two (k : Nat) : bl (2 ^ k) = k + 1 := by
  unfold bl
  rw [if_neg (by have := Nat.pow_pos (n := k) (show 0 < 2 by decide); omega), Nat.log2_two_pow]
theorem bl_less (k : Nat) : bl (2 ^ k - 1) = k := by
  rcases Nat.eq_zero_or_pos k with rfl | h
  · simp [bl_zero]
  · refine Nat.le_antisymm (bl_le.2 (by have := Nat.pow_pos (n := k) (show 0 < 2 by decide); omega)) ?_
    rcases Nat.lt_or_ge (bl (2 ^ k - 1)) k with hlt | hge
    · exfalso
      have h1 := bl_le.1 (show bl (2 ^ k - 1) ≤ k - 1 by omega)
      have h2 : 2 ^ k = 2 ^ (k - 1) * 2 := by rw [← Nat.pow_succ]; congr 1; omega
      have h3 : 0 < 2 ^ (k - 1) := Nat.pow_pos (by decide)
      omega
    · exact hge
/-- The number of the law, and the length of its power. -/
structure LargeZ (z : Int) (k m L : Nat) : Prop where
  fz : z.natAbs = 2 ^ k
  one : 1 < z.natAbs
  fits : Fits z 7
  len : bl (magOf (z ^ m)) = L
theorem pow_above (j : Nat) : 0 < (2 : Int) ^ j := by
  have e : (2 : Int) ^ j = ((2 ^ j : Nat) : Int) := by simp
  rw [e]
  have := Nat.pow_pos (n := j) (show 0 < 2 by decide)
  omega
theorem large_pos (k m : Nat) (h0 : 0 < k) (hk : k ≤ 200) : LargeZ ((2 : Int) ^ k) k m (k * m + 1) := by
  have e : ((2 : Int) ^ k).natAbs = 2 ^ k := by rw [Int.natAbs_pow]; rfl
  refine ⟨e, by rw [e]; exact Nat.one_lt_two_pow (by omega), by unfold Fits; rw [e, B32_pow]; exact Nat.pow_lt_pow_right (by decide) (by omega), ?_⟩
  have e2 : magOf (((2 : Int) ^ k) ^ m) = 2 ^ (k * m) := by
    unfold magOf
    rw [← Int.pow_mul, if_neg (by have := pow_above (k * m); omega), Int.natAbs_pow]
    rfl
  rw [e2, bl_two]
theorem large_even (k m : Nat) (h0 : 0 < k) (hk : k ≤ 200) (hm : m % 2 = 0) : LargeZ (-((2 : Int) ^ k)) k m (k * m + 1) := by
  have h := large_pos k m h0 hk
  have e : (-((2 : Int) ^ k)) ^ m = ((2 : Int) ^ k) ^ m := by
    rw [show -((2 : Int) ^ k) = (-1) * 2 ^ k by omega, Int.mul_pow, neg_one_even hm, Int.one_mul]
  exact ⟨by rw [Int.natAbs_neg]; exact h.fz, by rw [Int.natAbs_neg]; exact h.one, h.fits.neg, by rw [e]; exact h.len⟩
theorem large_odd (k m : Nat) (h0 : 0 < k) (hk : k ≤ 200) (hm : m % 2 = 1) : LargeZ (-((2 : Int) ^ k)) k m (k * m) := by
  have h := large_pos k m h0 hk
  have e : (-((2 : Int) ^ k)) ^ m = -((2 : Int) ^ (k * m)) := by
    rw [show -((2 : Int) ^ k) = (-1) * 2 ^ k by omega, Int.mul_pow, neg_one_odd hm, Int.neg_mul, Int.one_mul, Int.pow_mul]
  refine ⟨by rw [Int.natAbs_neg]; exact h.fz, by rw [Int.natAbs_neg]; exact h.one, h.fits.neg, ?_⟩
  have e2 : magOf (-((2 : Int) ^ (k * m))) = 2 ^ (k * m) - 1 := by
    unfold magOf
    rw [if_pos (by have := pow_above (k * m); omega), Int.natAbs_neg, Int.natAbs_pow]
    rfl
  rw [e, e2, bl_less]
theorem shift_two (k : Nat) (hk : k ≤ 200) : shErr 1 (k : Int) = 0 ∧ shAns 1 (k : Int) = (2 : Int) ^ k := by
  have n1 : ¬ shBig 1 (k : Int) := fun h => by have := h.2.2; rw [show bl (magOf 1) = 1 by decide] at this; omega
  unfold shErr shAns
  rw [if_neg n1, if_neg n1]
  refine ⟨rfl, ?_⟩
  unfold shZ
  split
  · simp
  · rename_i h
    have : k = 0 := by omega
    subst this
    rfl

theorem fits_mag {z : Int} {K M : Nat} (h : magOf z < 2 ^ K) (hM : K < 32 * M) : Fits z M := by
  unfold Fits
  rw [B32_pow]
  have h1 : z.natAbs ≤ 2 ^ K := by unfold magOf at h; split at h <;> omega
  exact Nat.lt_of_le_of_lt h1 (Nat.pow_lt_pow_right (by decide) hM)

set_option maxRecDepth 100000 in
set_option maxHeartbeats 4000000 in
theorem case_pos (bits n b k m km l : Nat) (z : Int) (w : World) (hbb : bits % 200 = b) (hk : 1 + b = k) (hm : n % 2000 = m) (hbits : bits ≤ 65535) (hn : n ≤ 65535) (hkm : k * m = km) (hl : km + 1 = l)
    (hz : LargeZ z k m (l)) (hx : (2 : Int) ^ k = z) (hL : l ≤ 65536) :
    Calls Try.prog 6 #[.int .u16 (bits : Int), .int .u16 (n : Int), .bool false] w fun e w' => IsBool w w' true e := by
  have HZ := Lib.hid (And.intro hz (And.intro hx hkm))
  have HC := Lib.hid (And.intro (Vars.nil w) (Below.refl w.heap.size w))
  have i1 : (bits : Int) % 200 = (b : Int) := by omega
  have i2 : 1 + (b : Int) = (k : Int) := by omega
  have i3 : (n : Int) % 2000 = (m : Int) := by omega
  have i4 : k ≤ 200 := by omega
  have i5 : m ≤ 1999 := by omega
  have HS := Lib.hid (shift_two k i4)
  have i6 : km ≤ 399800 := by rw [← hkm]; exact Nat.mul_le_mul i4 i5
  have i7 : (k : Int) * (m : Int) = (km : Int) := by rw [← hkm]; simp
  have i10 : (km : Int) + 1 = (l : Int) := by omega
  have i9 : (l : Int) ≤ 65536 := by omega
  clear hz hx hbb hk hm hkm hL hl
  go_enter Try.func6, Try.ntmps6
  go_upto_region 2 with fail
  go_wp2_with fail
  refine (new_is 1 _ (by decide) (by decide)).mono ?_
  rintro e wqm ⟨qvm, rfl, ⟨qbm, qAm, qcm, qsm, rfl, qgm, qlm⟩, hbm⟩
  have HCm := Lib.hid (And.intro ((HC.out.1.step hbm rfl).told qgm qlm) (below_then HC.out.2 hbm))
  clear hbm qgm qlm HC
  go_wp2_with fail
  refine (shift_is _ 1 (k : Int) _ 1 _ ((HCm.out.1 0 _ rfl).at_) (by unfold Fits; decide) (by decide) (by omega) HS.out.1 HS.out.2).mono ?_
  rintro e wq1 ⟨qv1, rfl, ⟨qb1, qA1, qc1, qs1, rfl, qg1, ql1⟩, hb1⟩
  have hv1 := ((HCm.out.1.step hb1 rfl).told qg1 ql1).laid 28
  have hl1 : Below w.heap.size w (wq1.alloc (.cells #[.bool qb1, .slice qA1 qs1.length qc1] 28)) := (below_then HCm.out.2 hb1).alloc (Nat.le_trans HCm.out.2.size hb1.size) _
  obtain ⟨Wq1, hW1⟩ : ∃ W : World, W = wq1.alloc (.cells #[.bool qb1, .slice qA1 qs1.length qc1] 28) := ⟨_, rfl⟩
  obtain ⟨rq1, hr1⟩ : ∃ r : Nat, r = wq1.heap.size := ⟨_, rfl⟩
  have HN8 := Lib.hid (show w.heap.size ≤ rq1 from by rw [hr1]; exact Nat.le_trans HCm.out.2.size hb1.size)
  rw [← hW1] at hv1 hl1
  rw [← hr1] at hv1
  have HC1 := Lib.hid (And.intro hv1 hl1)
  have HW1 := Lib.hid hW1
  have HR1 := Lib.hid hr1
  clear hv1 hl1 hW1 hr1 qg1 ql1 hb1 HCm
  go_upto_region 3 with fail
  rw [← HW1.out, ← HR1.out]
  have HFz := Lib.hid (show Frz Wq1 rq1 from by rw [HW1.out, HR1.out]; exact Frz.new _ _ _ _)
  clear HW1 HR1
  have HC8 := Lib.hid (And.intro HC1.out.1.skip HC1.out.2)
  have HF8 := Lib.hid (And.intro HFz.out ((HC1.out.1 0 _ rfl).lt rfl))
  clear HC1 HFz HS
  have HC9 := Lib.hid (show Vars Wq1 [⟨true, rq1, qb1, qA1, qs1.length, qc1, z⟩] ∧ Below w.heap.size w Wq1 from ⟨by have h := HC8.out.1; rw [HZ.out.2.1] at h; exact h, HC8.out.2⟩)
  clear HC8
  go_upto_region 5 with fail
  clear HF8 HN8
  go_upto_region 6 with fail
  obtain ⟨px0, px1⟩ : Two Wq1 rq1 (.bool qb1) (.slice qA1 qs1.length qc1) := (HC9.out.1 0 _ rfl).two rfl
  go_wp2_with fail
  refine (Power_ok _ z m 7 _ ((HC9.out.1 0 _ rfl).at_) (by decide) HZ.out.1.fits HZ.out.1.one (by omega) (by rw [HZ.out.1.len]; omega)).mono ?_
  rintro e wq2 ⟨qv2, rfl, ⟨qb2, qA2, qc2, qs2, rfl, qg2, ql2⟩, hb2⟩
  have hv2 := ((HC9.out.1.step hb2 rfl).told qg2 ql2).laid 28
  have hl2 : Below w.heap.size w (wq2.alloc (.cells #[.bool qb2, .slice qA2 qs2.length qc2] 28)) := (below_then HC9.out.2 hb2).alloc (Nat.le_trans HC9.out.2.size hb2.size) _
  obtain ⟨Wq2, hW2⟩ : ∃ W : World, W = wq2.alloc (.cells #[.bool qb2, .slice qA2 qs2.length qc2] 28) := ⟨_, rfl⟩
  obtain ⟨rq2, hr2⟩ : ∃ r : Nat, r = wq2.heap.size := ⟨_, rfl⟩
  rw [← hW2] at hv2 hl2
  rw [← hr2] at hv2
  have HC2 := Lib.hid (And.intro hv2 hl2)
  have HW2 := Lib.hid hW2
  have HR2 := Lib.hid hr2
  clear px0 px1
  clear hv2 hl2 hW2 hr2 qg2 ql2 hb2 HC9
  go_upto_region 7 with fail
  rw [← HW2.out, ← HR2.out]
  clear HW2 HR2
  obtain ⟨py0, py1⟩ : Two Wq2 rq2 (.bool qb2) (.slice qA2 qs2.length qc2) := (HC2.out.1 0 _ rfl).two rfl
  go_wp2_with fail
  refine (length_is _ (z ^ m) (l : Int) 2049 _ ((HC2.out.1 0 _ rfl).at_) (by decide) (by have h := bl_le.1 (show bl (magOf (z ^ m)) ≤ 65536 by rw [HZ.out.1.len]; omega); exact fits_mag h (by decide)) (by rw [HZ.out.1.len])).mono ?_
  rintro e wq3 ⟨rfl, hb3⟩
  have HC3 := Lib.hid (And.intro (HC2.out.1.step hb3 rfl) (below_then HC2.out.2 hb3))
  clear py0 py1
  clear hb3 HC2
  go_wp2_with fail
  refine (awake_any _).mono ?_
  rintro e wq4 ⟨rfl, hb4⟩
  have HC4 := Lib.hid (And.intro (HC3.out.1.step hb4 rfl) (below_then HC3.out.2 hb4))
  clear hb4 HC3
  go_wp2
  go_ret
  exact ⟨rfl, HC4.out.2⟩

set_option maxRecDepth 100000 in
set_option maxHeartbeats 4000000 in
theorem case_pos_big (bits n b k m km l : Nat) (z : Int) (w : World) (hbb : bits % 200 = b) (hk : 1 + b = k) (hm : n % 2000 = m) (hbits : bits ≤ 65535) (hn : n ≤ 65535) (hkm : k * m = km) (hl : km + 1 = l)
    (hz : LargeZ z k m (l)) (hx : (2 : Int) ^ k = z) (hL : 65536 < l) :
    Calls Try.prog 6 #[.int .u16 (bits : Int), .int .u16 (n : Int), .bool false] w fun e w' => IsBool w w' true e := by
  have HZ := Lib.hid (And.intro hz (And.intro hx hkm))
  have HC := Lib.hid (And.intro (Vars.nil w) (Below.refl w.heap.size w))
  have i1 : (bits : Int) % 200 = (b : Int) := by omega
  have i2 : 1 + (b : Int) = (k : Int) := by omega
  have i3 : (n : Int) % 2000 = (m : Int) := by omega
  have i4 : k ≤ 200 := by omega
  have i5 : m ≤ 1999 := by omega
  have HS := Lib.hid (shift_two k i4)
  have i6 : km ≤ 399800 := by rw [← hkm]; exact Nat.mul_le_mul i4 i5
  have i7 : (k : Int) * (m : Int) = (km : Int) := by rw [← hkm]; simp
  have i10 : (km : Int) + 1 = (l : Int) := by omega
  have i9 : (65536 : Int) < (l : Int) := by omega
  have hpos : 0 < m := by rcases Nat.eq_zero_or_pos m with e | e; (subst e; simp at hkm; omega); exact e
  clear hz hx hbb hk hm hkm hL hl
  go_enter Try.func6, Try.ntmps6
  go_upto_region 2 with fail
  go_wp2_with fail
  refine (new_is 1 _ (by decide) (by decide)).mono ?_
  rintro e wqm ⟨qvm, rfl, ⟨qbm, qAm, qcm, qsm, rfl, qgm, qlm⟩, hbm⟩
  have HCm := Lib.hid (And.intro ((HC.out.1.step hbm rfl).told qgm qlm) (below_then HC.out.2 hbm))
  clear hbm qgm qlm HC
  go_wp2_with fail
  refine (shift_is _ 1 (k : Int) _ 1 _ ((HCm.out.1 0 _ rfl).at_) (by unfold Fits; decide) (by decide) (by omega) HS.out.1 HS.out.2).mono ?_
  rintro e wq1 ⟨qv1, rfl, ⟨qb1, qA1, qc1, qs1, rfl, qg1, ql1⟩, hb1⟩
  have hv1 := ((HCm.out.1.step hb1 rfl).told qg1 ql1).laid 28
  have hl1 : Below w.heap.size w (wq1.alloc (.cells #[.bool qb1, .slice qA1 qs1.length qc1] 28)) := (below_then HCm.out.2 hb1).alloc (Nat.le_trans HCm.out.2.size hb1.size) _
  obtain ⟨Wq1, hW1⟩ : ∃ W : World, W = wq1.alloc (.cells #[.bool qb1, .slice qA1 qs1.length qc1] 28) := ⟨_, rfl⟩
  obtain ⟨rq1, hr1⟩ : ∃ r : Nat, r = wq1.heap.size := ⟨_, rfl⟩
  have HN8 := Lib.hid (show w.heap.size ≤ rq1 from by rw [hr1]; exact Nat.le_trans HCm.out.2.size hb1.size)
  rw [← hW1] at hv1 hl1
  rw [← hr1] at hv1
  have HC1 := Lib.hid (And.intro hv1 hl1)
  have HW1 := Lib.hid hW1
  have HR1 := Lib.hid hr1
  clear hv1 hl1 hW1 hr1 qg1 ql1 hb1 HCm
  go_upto_region 3 with fail
  rw [← HW1.out, ← HR1.out]
  have HFz := Lib.hid (show Frz Wq1 rq1 from by rw [HW1.out, HR1.out]; exact Frz.new _ _ _ _)
  clear HW1 HR1
  have HC8 := Lib.hid (And.intro HC1.out.1.skip HC1.out.2)
  have HF8 := Lib.hid (And.intro HFz.out ((HC1.out.1 0 _ rfl).lt rfl))
  clear HC1 HFz HS
  have HC9 := Lib.hid (show Vars Wq1 [⟨true, rq1, qb1, qA1, qs1.length, qc1, z⟩] ∧ Below w.heap.size w Wq1 from ⟨by have h := HC8.out.1; rw [HZ.out.2.1] at h; exact h, HC8.out.2⟩)
  clear HC8
  go_upto_region 5 with fail
  clear HF8 HN8
  go_upto_region 6 with fail
  obtain ⟨px0, px1⟩ : Two Wq1 rq1 (.bool qb1) (.slice qA1 qs1.length qc1) := (HC9.out.1 0 _ rfl).two rfl
  go_wp2_with fail
  refine (Power_big _ z m 7 _ ((HC9.out.1 0 _ rfl).at_) (by decide) HZ.out.1.fits HZ.out.1.one (by omega) hpos (by rw [HZ.out.1.len]; omega)).mono ?_
  rintro e wq2 ⟨qv2, rfl, ⟨qb2, qA2, qc2, qs2, rfl, qg2, ql2⟩, hb2⟩
  have hv2 := ((HC9.out.1.step hb2 rfl).told qg2 ql2).laid 28
  have hl2 : Below w.heap.size w (wq2.alloc (.cells #[.bool qb2, .slice qA2 qs2.length qc2] 28)) := (below_then HC9.out.2 hb2).alloc (Nat.le_trans HC9.out.2.size hb2.size) _
  obtain ⟨Wq2, hW2⟩ : ∃ W : World, W = wq2.alloc (.cells #[.bool qb2, .slice qA2 qs2.length qc2] 28) := ⟨_, rfl⟩
  obtain ⟨rq2, hr2⟩ : ∃ r : Nat, r = wq2.heap.size := ⟨_, rfl⟩
  rw [← hW2] at hv2 hl2
  rw [← hr2] at hv2
  have HC2 := Lib.hid (And.intro hv2 hl2)
  have HW2 := Lib.hid hW2
  have HR2 := Lib.hid hr2
  clear px0 px1
  clear hv2 hl2 hW2 hr2 qg2 ql2 hb2 HC9
  go_upto_region 7 with fail
  rw [← HW2.out, ← HR2.out]
  clear HW2 HR2
  go_wp2_with fail
  refine (awake_any _).mono ?_
  rintro e wq3 ⟨rfl, hb3⟩
  have HC3 := Lib.hid (And.intro (HC2.out.1.step hb3 rfl) (below_then HC2.out.2 hb3))
  clear hb3 HC2
  go_wp2
  go_ret
  exact ⟨rfl, HC3.out.2⟩

set_option maxRecDepth 100000 in
set_option maxHeartbeats 4000000 in
theorem case_even (bits n b k m km l : Nat) (z : Int) (w : World) (hbb : bits % 200 = b) (hk : 1 + b = k) (hm : n % 2000 = m) (hbits : bits ≤ 65535) (hn : n ≤ 65535) (hkm : k * m = km) (hl : km + 1 = l) (ho : m % 2 = 0)
    (hz : LargeZ z k m (l)) (hx : -((2 : Int) ^ k) = z) (hL : l ≤ 65536) :
    Calls Try.prog 6 #[.int .u16 (bits : Int), .int .u16 (n : Int), .bool true] w fun e w' => IsBool w w' true e := by
  have HZ := Lib.hid (And.intro hz (And.intro hx hkm))
  have HC := Lib.hid (And.intro (Vars.nil w) (Below.refl w.heap.size w))
  have i1 : (bits : Int) % 200 = (b : Int) := by omega
  have i2 : 1 + (b : Int) = (k : Int) := by omega
  have i3 : (n : Int) % 2000 = (m : Int) := by omega
  have i4 : k ≤ 200 := by omega
  have i5 : m ≤ 1999 := by omega
  have HS := Lib.hid (shift_two k i4)
  have i6 : km ≤ 399800 := by rw [← hkm]; exact Nat.mul_le_mul i4 i5
  have i7 : (k : Int) * (m : Int) = (km : Int) := by rw [← hkm]; simp
  have i10 : (km : Int) + 1 = (l : Int) := by omega
  have i8 : (m : Int) % 2 = 0 := by omega
  have i9 : (l : Int) ≤ 65536 := by omega
  clear hz hx hbb hk hm hkm hL hl
  go_enter Try.func6, Try.ntmps6
  go_upto_region 2 with fail
  go_wp2_with fail
  refine (new_is 1 _ (by decide) (by decide)).mono ?_
  rintro e wqm ⟨qvm, rfl, ⟨qbm, qAm, qcm, qsm, rfl, qgm, qlm⟩, hbm⟩
  have HCm := Lib.hid (And.intro ((HC.out.1.step hbm rfl).told qgm qlm) (below_then HC.out.2 hbm))
  clear hbm qgm qlm HC
  go_wp2_with fail
  refine (shift_is _ 1 (k : Int) _ 1 _ ((HCm.out.1 0 _ rfl).at_) (by unfold Fits; decide) (by decide) (by omega) HS.out.1 HS.out.2).mono ?_
  rintro e wq1 ⟨qv1, rfl, ⟨qb1, qA1, qc1, qs1, rfl, qg1, ql1⟩, hb1⟩
  have hv1 := ((HCm.out.1.step hb1 rfl).told qg1 ql1).laid 28
  have hl1 : Below w.heap.size w (wq1.alloc (.cells #[.bool qb1, .slice qA1 qs1.length qc1] 28)) := (below_then HCm.out.2 hb1).alloc (Nat.le_trans HCm.out.2.size hb1.size) _
  obtain ⟨Wq1, hW1⟩ : ∃ W : World, W = wq1.alloc (.cells #[.bool qb1, .slice qA1 qs1.length qc1] 28) := ⟨_, rfl⟩
  obtain ⟨rq1, hr1⟩ : ∃ r : Nat, r = wq1.heap.size := ⟨_, rfl⟩
  have HN8 := Lib.hid (show w.heap.size ≤ rq1 from by rw [hr1]; exact Nat.le_trans HCm.out.2.size hb1.size)
  rw [← hW1] at hv1 hl1
  rw [← hr1] at hv1
  have HC1 := Lib.hid (And.intro hv1 hl1)
  have HW1 := Lib.hid hW1
  have HR1 := Lib.hid hr1
  clear hv1 hl1 hW1 hr1 qg1 ql1 hb1 HCm
  go_upto_region 3 with fail
  rw [← HW1.out, ← HR1.out]
  have HFz := Lib.hid (show Frz Wq1 rq1 from by rw [HW1.out, HR1.out]; exact Frz.new _ _ _ _)
  clear HW1 HR1
  have HC8 := Lib.hid (And.intro HC1.out.1.skip HC1.out.2)
  have HF8 := Lib.hid (And.intro HFz.out ((HC1.out.1 0 _ rfl).lt rfl))
  clear HC1 HFz HS
  go_upto_region 4 with fail
  obtain ⟨px0, px1⟩ : Two Wq1 rq1 (.bool qb1) (.slice qA1 qs1.length qc1) := (HC8.out.1 0 _ rfl).two rfl
  go_wp2_with fail
  refine (Neg_any _ ((2 : Int) ^ k) 7 _ ((HC8.out.1 0 _ rfl).at_) (show Fits ((2 : Int) ^ k) 7 from (large_pos k m (by omega) i4).fits) (by decide)).mono ?_
  rw [HZ.out.2.1]
  rintro e wqA ⟨qvA, rfl, ⟨qbA, qAA, qcA, qsA, rfl, qgA, qlA⟩, hbA⟩
  have hvA := (HC8.out.1.step hbA rfl).told qgA qlA
  have hoA := hvA.over1 rfl
  have hfA := HF8.out.1.step hbA HF8.out.2
  have hlA := ((below_then HC8.out.2 hbA).setCell (p := ⟨rq1, 0, none⟩) HN8.out (.bool qbA)).setCell (p := ⟨rq1, 1, none⟩) HN8.out (.slice qAA qsA.length qcA)
  obtain ⟨pr0A, pr1A⟩ := (hvA 1 _ rfl).two rfl
  obtain ⟨pf0A, pf1A⟩ := id hfA
  obtain ⟨WqA, hWA⟩ : ∃ W : World, W = ((wqA.setCell ⟨rq1, 0, none⟩ (.bool qbA)).setCell ⟨rq1, 1, none⟩ (.slice qAA qsA.length qcA)) := ⟨_, rfl⟩
  dsimp only at hoA pr0A pr1A
  rw [← hWA] at hoA hlA
  have HCA := Lib.hid (And.intro hoA hlA)
  have HWA := Lib.hid hWA
  clear px0 px1
  clear hvA hoA hfA hlA hWA hbA qgA qlA HC8
  go_upto_region 5 with fail
  rw [← HWA.out]
  clear HWA pr0A pr1A pf0A pf1A
  clear HF8 HN8
  go_upto_region 6 with fail
  obtain ⟨px0, px1⟩ : Two WqA rq1 (.bool qbA) (.slice qAA qsA.length qcA) := (HCA.out.1 0 _ rfl).two rfl
  go_wp2_with fail
  refine (Power_ok _ z m 7 _ ((HCA.out.1 0 _ rfl).at_) (by decide) HZ.out.1.fits HZ.out.1.one (by omega) (by rw [HZ.out.1.len]; omega)).mono ?_
  rintro e wq2 ⟨qv2, rfl, ⟨qb2, qA2, qc2, qs2, rfl, qg2, ql2⟩, hb2⟩
  have hv2 := ((HCA.out.1.step hb2 rfl).told qg2 ql2).laid 28
  have hl2 : Below w.heap.size w (wq2.alloc (.cells #[.bool qb2, .slice qA2 qs2.length qc2] 28)) := (below_then HCA.out.2 hb2).alloc (Nat.le_trans HCA.out.2.size hb2.size) _
  obtain ⟨Wq2, hW2⟩ : ∃ W : World, W = wq2.alloc (.cells #[.bool qb2, .slice qA2 qs2.length qc2] 28) := ⟨_, rfl⟩
  obtain ⟨rq2, hr2⟩ : ∃ r : Nat, r = wq2.heap.size := ⟨_, rfl⟩
  rw [← hW2] at hv2 hl2
  rw [← hr2] at hv2
  have HC2 := Lib.hid (And.intro hv2 hl2)
  have HW2 := Lib.hid hW2
  have HR2 := Lib.hid hr2
  clear px0 px1
  clear hv2 hl2 hW2 hr2 qg2 ql2 hb2 HCA
  go_upto_region 7 with fail
  rw [← HW2.out, ← HR2.out]
  clear HW2 HR2
  obtain ⟨py0, py1⟩ : Two Wq2 rq2 (.bool qb2) (.slice qA2 qs2.length qc2) := (HC2.out.1 0 _ rfl).two rfl
  go_wp2_with fail
  refine (length_is _ (z ^ m) (l : Int) 2049 _ ((HC2.out.1 0 _ rfl).at_) (by decide) (by have h := bl_le.1 (show bl (magOf (z ^ m)) ≤ 65536 by rw [HZ.out.1.len]; omega); exact fits_mag h (by decide)) (by rw [HZ.out.1.len])).mono ?_
  rintro e wq3 ⟨rfl, hb3⟩
  have HC3 := Lib.hid (And.intro (HC2.out.1.step hb3 rfl) (below_then HC2.out.2 hb3))
  clear py0 py1
  clear hb3 HC2
  go_wp2_with fail
  refine (awake_any _).mono ?_
  rintro e wq4 ⟨rfl, hb4⟩
  have HC4 := Lib.hid (And.intro (HC3.out.1.step hb4 rfl) (below_then HC3.out.2 hb4))
  clear hb4 HC3
  go_wp2
  go_ret
  exact ⟨rfl, HC4.out.2⟩

set_option maxRecDepth 100000 in
set_option maxHeartbeats 4000000 in
theorem case_even_big (bits n b k m km l : Nat) (z : Int) (w : World) (hbb : bits % 200 = b) (hk : 1 + b = k) (hm : n % 2000 = m) (hbits : bits ≤ 65535) (hn : n ≤ 65535) (hkm : k * m = km) (hl : km + 1 = l) (ho : m % 2 = 0)
    (hz : LargeZ z k m (l)) (hx : -((2 : Int) ^ k) = z) (hL : 65536 < l) :
    Calls Try.prog 6 #[.int .u16 (bits : Int), .int .u16 (n : Int), .bool true] w fun e w' => IsBool w w' true e := by
  have HZ := Lib.hid (And.intro hz (And.intro hx hkm))
  have HC := Lib.hid (And.intro (Vars.nil w) (Below.refl w.heap.size w))
  have i1 : (bits : Int) % 200 = (b : Int) := by omega
  have i2 : 1 + (b : Int) = (k : Int) := by omega
  have i3 : (n : Int) % 2000 = (m : Int) := by omega
  have i4 : k ≤ 200 := by omega
  have i5 : m ≤ 1999 := by omega
  have HS := Lib.hid (shift_two k i4)
  have i6 : km ≤ 399800 := by rw [← hkm]; exact Nat.mul_le_mul i4 i5
  have i7 : (k : Int) * (m : Int) = (km : Int) := by rw [← hkm]; simp
  have i10 : (km : Int) + 1 = (l : Int) := by omega
  have i8 : (m : Int) % 2 = 0 := by omega
  have i9 : (65536 : Int) < (l : Int) := by omega
  have hpos : 0 < m := by rcases Nat.eq_zero_or_pos m with e | e; (subst e; simp at hkm; omega); exact e
  clear hz hx hbb hk hm hkm hL hl
  go_enter Try.func6, Try.ntmps6
  go_upto_region 2 with fail
  go_wp2_with fail
  refine (new_is 1 _ (by decide) (by decide)).mono ?_
  rintro e wqm ⟨qvm, rfl, ⟨qbm, qAm, qcm, qsm, rfl, qgm, qlm⟩, hbm⟩
  have HCm := Lib.hid (And.intro ((HC.out.1.step hbm rfl).told qgm qlm) (below_then HC.out.2 hbm))
  clear hbm qgm qlm HC
  go_wp2_with fail
  refine (shift_is _ 1 (k : Int) _ 1 _ ((HCm.out.1 0 _ rfl).at_) (by unfold Fits; decide) (by decide) (by omega) HS.out.1 HS.out.2).mono ?_
  rintro e wq1 ⟨qv1, rfl, ⟨qb1, qA1, qc1, qs1, rfl, qg1, ql1⟩, hb1⟩
  have hv1 := ((HCm.out.1.step hb1 rfl).told qg1 ql1).laid 28
  have hl1 : Below w.heap.size w (wq1.alloc (.cells #[.bool qb1, .slice qA1 qs1.length qc1] 28)) := (below_then HCm.out.2 hb1).alloc (Nat.le_trans HCm.out.2.size hb1.size) _
  obtain ⟨Wq1, hW1⟩ : ∃ W : World, W = wq1.alloc (.cells #[.bool qb1, .slice qA1 qs1.length qc1] 28) := ⟨_, rfl⟩
  obtain ⟨rq1, hr1⟩ : ∃ r : Nat, r = wq1.heap.size := ⟨_, rfl⟩
  have HN8 := Lib.hid (show w.heap.size ≤ rq1 from by rw [hr1]; exact Nat.le_trans HCm.out.2.size hb1.size)
  rw [← hW1] at hv1 hl1
  rw [← hr1] at hv1
  have HC1 := Lib.hid (And.intro hv1 hl1)
  have HW1 := Lib.hid hW1
  have HR1 := Lib.hid hr1
  clear hv1 hl1 hW1 hr1 qg1 ql1 hb1 HCm
  go_upto_region 3 with fail
  rw [← HW1.out, ← HR1.out]
  have HFz := Lib.hid (show Frz Wq1 rq1 from by rw [HW1.out, HR1.out]; exact Frz.new _ _ _ _)
  clear HW1 HR1
  have HC8 := Lib.hid (And.intro HC1.out.1.skip HC1.out.2)
  have HF8 := Lib.hid (And.intro HFz.out ((HC1.out.1 0 _ rfl).lt rfl))
  clear HC1 HFz HS
  go_upto_region 4 with fail
  obtain ⟨px0, px1⟩ : Two Wq1 rq1 (.bool qb1) (.slice qA1 qs1.length qc1) := (HC8.out.1 0 _ rfl).two rfl
  go_wp2_with fail
  refine (Neg_any _ ((2 : Int) ^ k) 7 _ ((HC8.out.1 0 _ rfl).at_) (show Fits ((2 : Int) ^ k) 7 from (large_pos k m (by omega) i4).fits) (by decide)).mono ?_
  rw [HZ.out.2.1]
  rintro e wqA ⟨qvA, rfl, ⟨qbA, qAA, qcA, qsA, rfl, qgA, qlA⟩, hbA⟩
  have hvA := (HC8.out.1.step hbA rfl).told qgA qlA
  have hoA := hvA.over1 rfl
  have hfA := HF8.out.1.step hbA HF8.out.2
  have hlA := ((below_then HC8.out.2 hbA).setCell (p := ⟨rq1, 0, none⟩) HN8.out (.bool qbA)).setCell (p := ⟨rq1, 1, none⟩) HN8.out (.slice qAA qsA.length qcA)
  obtain ⟨pr0A, pr1A⟩ := (hvA 1 _ rfl).two rfl
  obtain ⟨pf0A, pf1A⟩ := id hfA
  obtain ⟨WqA, hWA⟩ : ∃ W : World, W = ((wqA.setCell ⟨rq1, 0, none⟩ (.bool qbA)).setCell ⟨rq1, 1, none⟩ (.slice qAA qsA.length qcA)) := ⟨_, rfl⟩
  dsimp only at hoA pr0A pr1A
  rw [← hWA] at hoA hlA
  have HCA := Lib.hid (And.intro hoA hlA)
  have HWA := Lib.hid hWA
  clear px0 px1
  clear hvA hoA hfA hlA hWA hbA qgA qlA HC8
  go_upto_region 5 with fail
  rw [← HWA.out]
  clear HWA pr0A pr1A pf0A pf1A
  clear HF8 HN8
  go_upto_region 6 with fail
  obtain ⟨px0, px1⟩ : Two WqA rq1 (.bool qbA) (.slice qAA qsA.length qcA) := (HCA.out.1 0 _ rfl).two rfl
  go_wp2_with fail
  refine (Power_big _ z m 7 _ ((HCA.out.1 0 _ rfl).at_) (by decide) HZ.out.1.fits HZ.out.1.one (by omega) hpos (by rw [HZ.out.1.len]; omega)).mono ?_
  rintro e wq2 ⟨qv2, rfl, ⟨qb2, qA2, qc2, qs2, rfl, qg2, ql2⟩, hb2⟩
  have hv2 := ((HCA.out.1.step hb2 rfl).told qg2 ql2).laid 28
  have hl2 : Below w.heap.size w (wq2.alloc (.cells #[.bool qb2, .slice qA2 qs2.length qc2] 28)) := (below_then HCA.out.2 hb2).alloc (Nat.le_trans HCA.out.2.size hb2.size) _
  obtain ⟨Wq2, hW2⟩ : ∃ W : World, W = wq2.alloc (.cells #[.bool qb2, .slice qA2 qs2.length qc2] 28) := ⟨_, rfl⟩
  obtain ⟨rq2, hr2⟩ : ∃ r : Nat, r = wq2.heap.size := ⟨_, rfl⟩
  rw [← hW2] at hv2 hl2
  rw [← hr2] at hv2
  have HC2 := Lib.hid (And.intro hv2 hl2)
  have HW2 := Lib.hid hW2
  have HR2 := Lib.hid hr2
  clear px0 px1
  clear hv2 hl2 hW2 hr2 qg2 ql2 hb2 HCA
  go_upto_region 7 with fail
  rw [← HW2.out, ← HR2.out]
  clear HW2 HR2
  go_wp2_with fail
  refine (awake_any _).mono ?_
  rintro e wq3 ⟨rfl, hb3⟩
  have HC3 := Lib.hid (And.intro (HC2.out.1.step hb3 rfl) (below_then HC2.out.2 hb3))
  clear hb3 HC2
  go_wp2
  go_ret
  exact ⟨rfl, HC3.out.2⟩

set_option maxRecDepth 100000 in
set_option maxHeartbeats 4000000 in
theorem case_odd (bits n b k m km l : Nat) (z : Int) (w : World) (hbb : bits % 200 = b) (hk : 1 + b = k) (hm : n % 2000 = m) (hbits : bits ≤ 65535) (hn : n ≤ 65535) (hkm : k * m = km) (hl : km + 1 = l) (ho : m % 2 = 1)
    (hz : LargeZ z k m (km)) (hx : -((2 : Int) ^ k) = z) (hL : km ≤ 65536) :
    Calls Try.prog 6 #[.int .u16 (bits : Int), .int .u16 (n : Int), .bool true] w fun e w' => IsBool w w' true e := by
  have HZ := Lib.hid (And.intro hz (And.intro hx hkm))
  have HC := Lib.hid (And.intro (Vars.nil w) (Below.refl w.heap.size w))
  have i1 : (bits : Int) % 200 = (b : Int) := by omega
  have i2 : 1 + (b : Int) = (k : Int) := by omega
  have i3 : (n : Int) % 2000 = (m : Int) := by omega
  have i4 : k ≤ 200 := by omega
  have i5 : m ≤ 1999 := by omega
  have HS := Lib.hid (shift_two k i4)
  have i6 : km ≤ 399800 := by rw [← hkm]; exact Nat.mul_le_mul i4 i5
  have i7 : (k : Int) * (m : Int) = (km : Int) := by rw [← hkm]; simp
  have i10 : (km : Int) + 1 = (l : Int) := by omega
  have i11 : (l : Int) - 1 = (km : Int) := by omega
  have i8 : (m : Int) % 2 = 1 := by omega
  have i9 : (km : Int) ≤ 65536 := by omega
  clear hz hx hbb hk hm hkm hL hl
  go_enter Try.func6, Try.ntmps6
  go_upto_region 2 with fail
  go_wp2_with fail
  refine (new_is 1 _ (by decide) (by decide)).mono ?_
  rintro e wqm ⟨qvm, rfl, ⟨qbm, qAm, qcm, qsm, rfl, qgm, qlm⟩, hbm⟩
  have HCm := Lib.hid (And.intro ((HC.out.1.step hbm rfl).told qgm qlm) (below_then HC.out.2 hbm))
  clear hbm qgm qlm HC
  go_wp2_with fail
  refine (shift_is _ 1 (k : Int) _ 1 _ ((HCm.out.1 0 _ rfl).at_) (by unfold Fits; decide) (by decide) (by omega) HS.out.1 HS.out.2).mono ?_
  rintro e wq1 ⟨qv1, rfl, ⟨qb1, qA1, qc1, qs1, rfl, qg1, ql1⟩, hb1⟩
  have hv1 := ((HCm.out.1.step hb1 rfl).told qg1 ql1).laid 28
  have hl1 : Below w.heap.size w (wq1.alloc (.cells #[.bool qb1, .slice qA1 qs1.length qc1] 28)) := (below_then HCm.out.2 hb1).alloc (Nat.le_trans HCm.out.2.size hb1.size) _
  obtain ⟨Wq1, hW1⟩ : ∃ W : World, W = wq1.alloc (.cells #[.bool qb1, .slice qA1 qs1.length qc1] 28) := ⟨_, rfl⟩
  obtain ⟨rq1, hr1⟩ : ∃ r : Nat, r = wq1.heap.size := ⟨_, rfl⟩
  have HN8 := Lib.hid (show w.heap.size ≤ rq1 from by rw [hr1]; exact Nat.le_trans HCm.out.2.size hb1.size)
  rw [← hW1] at hv1 hl1
  rw [← hr1] at hv1
  have HC1 := Lib.hid (And.intro hv1 hl1)
  have HW1 := Lib.hid hW1
  have HR1 := Lib.hid hr1
  clear hv1 hl1 hW1 hr1 qg1 ql1 hb1 HCm
  go_upto_region 3 with fail
  rw [← HW1.out, ← HR1.out]
  have HFz := Lib.hid (show Frz Wq1 rq1 from by rw [HW1.out, HR1.out]; exact Frz.new _ _ _ _)
  clear HW1 HR1
  have HC8 := Lib.hid (And.intro HC1.out.1.skip HC1.out.2)
  have HF8 := Lib.hid (And.intro HFz.out ((HC1.out.1 0 _ rfl).lt rfl))
  clear HC1 HFz HS
  go_upto_region 4 with fail
  obtain ⟨px0, px1⟩ : Two Wq1 rq1 (.bool qb1) (.slice qA1 qs1.length qc1) := (HC8.out.1 0 _ rfl).two rfl
  go_wp2_with fail
  refine (Neg_any _ ((2 : Int) ^ k) 7 _ ((HC8.out.1 0 _ rfl).at_) (show Fits ((2 : Int) ^ k) 7 from (large_pos k m (by omega) i4).fits) (by decide)).mono ?_
  rw [HZ.out.2.1]
  rintro e wqA ⟨qvA, rfl, ⟨qbA, qAA, qcA, qsA, rfl, qgA, qlA⟩, hbA⟩
  have hvA := (HC8.out.1.step hbA rfl).told qgA qlA
  have hoA := hvA.over1 rfl
  have hfA := HF8.out.1.step hbA HF8.out.2
  have hlA := ((below_then HC8.out.2 hbA).setCell (p := ⟨rq1, 0, none⟩) HN8.out (.bool qbA)).setCell (p := ⟨rq1, 1, none⟩) HN8.out (.slice qAA qsA.length qcA)
  obtain ⟨pr0A, pr1A⟩ := (hvA 1 _ rfl).two rfl
  obtain ⟨pf0A, pf1A⟩ := id hfA
  obtain ⟨WqA, hWA⟩ : ∃ W : World, W = ((wqA.setCell ⟨rq1, 0, none⟩ (.bool qbA)).setCell ⟨rq1, 1, none⟩ (.slice qAA qsA.length qcA)) := ⟨_, rfl⟩
  dsimp only at hoA pr0A pr1A
  rw [← hWA] at hoA hlA
  have HCA := Lib.hid (And.intro hoA hlA)
  have HWA := Lib.hid hWA
  clear px0 px1
  clear hvA hoA hfA hlA hWA hbA qgA qlA HC8
  go_upto_region 5 with fail
  rw [← HWA.out]
  clear HWA pr0A pr1A pf0A pf1A
  clear HF8 HN8
  go_upto_region 6 with fail
  obtain ⟨px0, px1⟩ : Two WqA rq1 (.bool qbA) (.slice qAA qsA.length qcA) := (HCA.out.1 0 _ rfl).two rfl
  go_wp2_with fail
  refine (Power_ok _ z m 7 _ ((HCA.out.1 0 _ rfl).at_) (by decide) HZ.out.1.fits HZ.out.1.one (by omega) (by rw [HZ.out.1.len]; omega)).mono ?_
  rintro e wq2 ⟨qv2, rfl, ⟨qb2, qA2, qc2, qs2, rfl, qg2, ql2⟩, hb2⟩
  have hv2 := ((HCA.out.1.step hb2 rfl).told qg2 ql2).laid 28
  have hl2 : Below w.heap.size w (wq2.alloc (.cells #[.bool qb2, .slice qA2 qs2.length qc2] 28)) := (below_then HCA.out.2 hb2).alloc (Nat.le_trans HCA.out.2.size hb2.size) _
  obtain ⟨Wq2, hW2⟩ : ∃ W : World, W = wq2.alloc (.cells #[.bool qb2, .slice qA2 qs2.length qc2] 28) := ⟨_, rfl⟩
  obtain ⟨rq2, hr2⟩ : ∃ r : Nat, r = wq2.heap.size := ⟨_, rfl⟩
  rw [← hW2] at hv2 hl2
  rw [← hr2] at hv2
  have HC2 := Lib.hid (And.intro hv2 hl2)
  have HW2 := Lib.hid hW2
  have HR2 := Lib.hid hr2
  clear px0 px1
  clear hv2 hl2 hW2 hr2 qg2 ql2 hb2 HCA
  go_upto_region 7 with fail
  rw [← HW2.out, ← HR2.out]
  clear HW2 HR2
  obtain ⟨py0, py1⟩ : Two Wq2 rq2 (.bool qb2) (.slice qA2 qs2.length qc2) := (HC2.out.1 0 _ rfl).two rfl
  go_wp2_with fail
  refine (length_is _ (z ^ m) (km : Int) 2049 _ ((HC2.out.1 0 _ rfl).at_) (by decide) (by have h := bl_le.1 (show bl (magOf (z ^ m)) ≤ 65536 by rw [HZ.out.1.len]; omega); exact fits_mag h (by decide)) (by rw [HZ.out.1.len])).mono ?_
  rintro e wq3 ⟨rfl, hb3⟩
  have HC3 := Lib.hid (And.intro (HC2.out.1.step hb3 rfl) (below_then HC2.out.2 hb3))
  clear py0 py1
  clear hb3 HC2
  go_wp2_with fail
  refine (awake_any _).mono ?_
  rintro e wq4 ⟨rfl, hb4⟩
  have HC4 := Lib.hid (And.intro (HC3.out.1.step hb4 rfl) (below_then HC3.out.2 hb4))
  clear hb4 HC3
  go_wp2
  go_ret
  exact ⟨rfl, HC4.out.2⟩

set_option maxRecDepth 100000 in
set_option maxHeartbeats 4000000 in
theorem case_odd_big (bits n b k m km l : Nat) (z : Int) (w : World) (hbb : bits % 200 = b) (hk : 1 + b = k) (hm : n % 2000 = m) (hbits : bits ≤ 65535) (hn : n ≤ 65535) (hkm : k * m = km) (hl : km + 1 = l) (ho : m % 2 = 1)
    (hz : LargeZ z k m (km)) (hx : -((2 : Int) ^ k) = z) (hL : 65536 < km) :
    Calls Try.prog 6 #[.int .u16 (bits : Int), .int .u16 (n : Int), .bool true] w fun e w' => IsBool w w' true e := by
  have HZ := Lib.hid (And.intro hz (And.intro hx hkm))
  have HC := Lib.hid (And.intro (Vars.nil w) (Below.refl w.heap.size w))
  have i1 : (bits : Int) % 200 = (b : Int) := by omega
  have i2 : 1 + (b : Int) = (k : Int) := by omega
  have i3 : (n : Int) % 2000 = (m : Int) := by omega
  have i4 : k ≤ 200 := by omega
  have i5 : m ≤ 1999 := by omega
  have HS := Lib.hid (shift_two k i4)
  have i6 : km ≤ 399800 := by rw [← hkm]; exact Nat.mul_le_mul i4 i5
  have i7 : (k : Int) * (m : Int) = (km : Int) := by rw [← hkm]; simp
  have i10 : (km : Int) + 1 = (l : Int) := by omega
  have i11 : (l : Int) - 1 = (km : Int) := by omega
  have i8 : (m : Int) % 2 = 1 := by omega
  have i9 : (65536 : Int) < (km : Int) := by omega
  have hpos : 0 < m := by rcases Nat.eq_zero_or_pos m with e | e; (subst e; simp at hkm; omega); exact e
  clear hz hx hbb hk hm hkm hL hl
  go_enter Try.func6, Try.ntmps6
  go_upto_region 2 with fail
  go_wp2_with fail
  refine (new_is 1 _ (by decide) (by decide)).mono ?_
  rintro e wqm ⟨qvm, rfl, ⟨qbm, qAm, qcm, qsm, rfl, qgm, qlm⟩, hbm⟩
  have HCm := Lib.hid (And.intro ((HC.out.1.step hbm rfl).told qgm qlm) (below_then HC.out.2 hbm))
  clear hbm qgm qlm HC
  go_wp2_with fail
  refine (shift_is _ 1 (k : Int) _ 1 _ ((HCm.out.1 0 _ rfl).at_) (by unfold Fits; decide) (by decide) (by omega) HS.out.1 HS.out.2).mono ?_
  rintro e wq1 ⟨qv1, rfl, ⟨qb1, qA1, qc1, qs1, rfl, qg1, ql1⟩, hb1⟩
  have hv1 := ((HCm.out.1.step hb1 rfl).told qg1 ql1).laid 28
  have hl1 : Below w.heap.size w (wq1.alloc (.cells #[.bool qb1, .slice qA1 qs1.length qc1] 28)) := (below_then HCm.out.2 hb1).alloc (Nat.le_trans HCm.out.2.size hb1.size) _
  obtain ⟨Wq1, hW1⟩ : ∃ W : World, W = wq1.alloc (.cells #[.bool qb1, .slice qA1 qs1.length qc1] 28) := ⟨_, rfl⟩
  obtain ⟨rq1, hr1⟩ : ∃ r : Nat, r = wq1.heap.size := ⟨_, rfl⟩
  have HN8 := Lib.hid (show w.heap.size ≤ rq1 from by rw [hr1]; exact Nat.le_trans HCm.out.2.size hb1.size)
  rw [← hW1] at hv1 hl1
  rw [← hr1] at hv1
  have HC1 := Lib.hid (And.intro hv1 hl1)
  have HW1 := Lib.hid hW1
  have HR1 := Lib.hid hr1
  clear hv1 hl1 hW1 hr1 qg1 ql1 hb1 HCm
  go_upto_region 3 with fail
  rw [← HW1.out, ← HR1.out]
  have HFz := Lib.hid (show Frz Wq1 rq1 from by rw [HW1.out, HR1.out]; exact Frz.new _ _ _ _)
  clear HW1 HR1
  have HC8 := Lib.hid (And.intro HC1.out.1.skip HC1.out.2)
  have HF8 := Lib.hid (And.intro HFz.out ((HC1.out.1 0 _ rfl).lt rfl))
  clear HC1 HFz HS
  go_upto_region 4 with fail
  obtain ⟨px0, px1⟩ : Two Wq1 rq1 (.bool qb1) (.slice qA1 qs1.length qc1) := (HC8.out.1 0 _ rfl).two rfl
  go_wp2_with fail
  refine (Neg_any _ ((2 : Int) ^ k) 7 _ ((HC8.out.1 0 _ rfl).at_) (show Fits ((2 : Int) ^ k) 7 from (large_pos k m (by omega) i4).fits) (by decide)).mono ?_
  rw [HZ.out.2.1]
  rintro e wqA ⟨qvA, rfl, ⟨qbA, qAA, qcA, qsA, rfl, qgA, qlA⟩, hbA⟩
  have hvA := (HC8.out.1.step hbA rfl).told qgA qlA
  have hoA := hvA.over1 rfl
  have hfA := HF8.out.1.step hbA HF8.out.2
  have hlA := ((below_then HC8.out.2 hbA).setCell (p := ⟨rq1, 0, none⟩) HN8.out (.bool qbA)).setCell (p := ⟨rq1, 1, none⟩) HN8.out (.slice qAA qsA.length qcA)
  obtain ⟨pr0A, pr1A⟩ := (hvA 1 _ rfl).two rfl
  obtain ⟨pf0A, pf1A⟩ := id hfA
  obtain ⟨WqA, hWA⟩ : ∃ W : World, W = ((wqA.setCell ⟨rq1, 0, none⟩ (.bool qbA)).setCell ⟨rq1, 1, none⟩ (.slice qAA qsA.length qcA)) := ⟨_, rfl⟩
  dsimp only at hoA pr0A pr1A
  rw [← hWA] at hoA hlA
  have HCA := Lib.hid (And.intro hoA hlA)
  have HWA := Lib.hid hWA
  clear px0 px1
  clear hvA hoA hfA hlA hWA hbA qgA qlA HC8
  go_upto_region 5 with fail
  rw [← HWA.out]
  clear HWA pr0A pr1A pf0A pf1A
  clear HF8 HN8
  go_upto_region 6 with fail
  obtain ⟨px0, px1⟩ : Two WqA rq1 (.bool qbA) (.slice qAA qsA.length qcA) := (HCA.out.1 0 _ rfl).two rfl
  go_wp2_with fail
  refine (Power_big _ z m 7 _ ((HCA.out.1 0 _ rfl).at_) (by decide) HZ.out.1.fits HZ.out.1.one (by omega) hpos (by rw [HZ.out.1.len]; omega)).mono ?_
  rintro e wq2 ⟨qv2, rfl, ⟨qb2, qA2, qc2, qs2, rfl, qg2, ql2⟩, hb2⟩
  have hv2 := ((HCA.out.1.step hb2 rfl).told qg2 ql2).laid 28
  have hl2 : Below w.heap.size w (wq2.alloc (.cells #[.bool qb2, .slice qA2 qs2.length qc2] 28)) := (below_then HCA.out.2 hb2).alloc (Nat.le_trans HCA.out.2.size hb2.size) _
  obtain ⟨Wq2, hW2⟩ : ∃ W : World, W = wq2.alloc (.cells #[.bool qb2, .slice qA2 qs2.length qc2] 28) := ⟨_, rfl⟩
  obtain ⟨rq2, hr2⟩ : ∃ r : Nat, r = wq2.heap.size := ⟨_, rfl⟩
  rw [← hW2] at hv2 hl2
  rw [← hr2] at hv2
  have HC2 := Lib.hid (And.intro hv2 hl2)
  have HW2 := Lib.hid hW2
  have HR2 := Lib.hid hr2
  clear px0 px1
  clear hv2 hl2 hW2 hr2 qg2 ql2 hb2 HCA
  go_upto_region 7 with fail
  rw [← HW2.out, ← HR2.out]
  clear HW2 HR2
  go_wp2_with fail
  refine (awake_any _).mono ?_
  rintro e wq3 ⟨rfl, hb3⟩
  have HC3 := Lib.hid (And.intro (HC2.out.1.step hb3 rfl) (below_then HC2.out.2 hb3))
  clear hb3 HC2
  go_wp2
  go_ret
  exact ⟨rfl, HC3.out.2⟩

end Go.Proofs.Ytagmdeabneapaaa
