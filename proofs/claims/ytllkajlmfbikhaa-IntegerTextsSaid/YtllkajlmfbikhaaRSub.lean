/- What Neg, Sub, Sign, Cmp, Odd of the reference do. -/
import Derived.Test.YtllkajlmfbikhaaRefA
import Derived.Test.YtllkajlmfbikhaaLen
namespace Go.Proofs.Ytllkajlmfbikhaa
open Go.RowKit

theorem Digs.below {w w' : World} {A : Option Addr} {c n : Nat} {ds : List Nat} (h : Digs w A c ds n) (hb : Below w.heap.size w w') : Digs w' A c ds n := h.step hb rfl
theorem rneg_of {z : Int} {b : Bool} (h : SignOf b z) : ofSign (!b) z.natAbs = -z := by
  unfold SignOf at h
  unfold ofSign
  subst h
  by_cases h : z < 0 <;> simp [h] <;> omega

set_option maxRecDepth 100000 in
set_option maxHeartbeats 2000000 in
theorem RNeg_any (v : Value) (z : Int) (m : Nat) (w : World) (h : RefAt w v z) (hz : z.natAbs < BD ^ m) (hm : m ≤ 1000000) : Calls Try.prog 35 #[v] w fun e w' => IsRef w w' (-z) e := by
  obtain ⟨b, A, c, ds, rfl, hs, hd⟩ := h
  have hlen := Nat.le_trans (hd.len hz) hm
  have hbel : Below w.heap.size w ((w.alloc (.cells #[.bool b, .slice A ds.length c] 31)).alloc (.cells #[.bool false, .slice none 0 0] 31)) := ((Below.refl _ _).alloc (Nat.le_refl _) _).alloc (by simp) _
  have hr := Res.new (w.alloc (.cells #[.bool b, .slice A ds.length c] 31)) 31
  rw [size_alloc] at hr
  have hmade := made_to (!b) A c ds (-z) _ (hd.2.1.below hbel) hd.2.2.1 hlen hd.1 (by rw [hd.2.2.2.2]; exact rneg_of hs)
  have H := Lib.hid (And.intro hmade (And.intro hbel hr))
  clear hbel hr hmade hs hd hlen hz
  cases b
  all_goals
    go_enter Try.func35, Try.ntmps35
    go_wp2_with fail
    refine H.out.1.mono ?_
    rintro e w2 ⟨v2, rfl, ⟨b4, A4, c4, zs4, rfl, hsg4, hl4⟩, hb2⟩
    have k2 := H.out.2.2.step hb2 rfl (by simp)
    obtain ⟨⟨hr0, hr1⟩, hf0, hf1⟩ := id k2
    go_wp2
    refine bodyPost_ret (v := .agg #[.bool b4, .slice A4 zs4.length c4]) (by simp [results, Try.results35, go_sem, hr0, hr1]) rfl ?_
    exact ref_stored k2 hsg4 hl4 (below_then H.out.2.1 hb2) (by omega)

set_option maxRecDepth 100000 in
set_option maxHeartbeats 2000000 in
theorem rsub_ints (b1 b2 : Bool) (A1 : Option Addr) (c1 : Nat) (zs1 : List Nat) (A2 : Option Addr) (c2 : Nat) (zs2 : List Nat) (x y : Int) (m : Nat) (w : World) (hs1 : SignOf b1 x) (hs2 : SignOf b2 y)
    (h1 : Digs w A1 c1 zs1 x.natAbs) (h2 : Digs w A2 c2 zs2 y.natAbs) (hm : m ≤ 900000) (hx : x.natAbs < BD ^ m) (hy : y.natAbs < BD ^ m) :
    Calls Try.prog 41 #[.agg #[.bool b1, .slice A1 zs1.length c1], .agg #[.bool b2, .slice A2 zs2.length c2]] w fun e w' => IsRef w w' (x - y) e := by
  have hbb := begun2_below w (.bool b1) (.slice A1 zs1.length c1) (.bool b2) (.slice A2 zs2.length c2) 31
  have hx0 := begun2_x w (.bool b1) (.slice A1 zs1.length c1) (.bool b2) (.slice A2 zs2.length c2) 31
  have hy0 := begun2_y w (.bool b1) (.slice A1 zs1.length c1) (.bool b2) (.slice A2 zs2.length c2) 31
  have hr0 := begun2_r w (.bool b1) (.slice A1 zs1.length c1) (.bool b2) (.slice A2 zs2.length c2) 31
  have hsz := begun2_size w (.bool b1) (.slice A1 zs1.length c1) (.bool b2) (.slice A2 zs2.length c2) 31
  have hi1 : RefAt (begun2 w (.bool b1) (.slice A1 zs1.length c1) (.bool b2) (.slice A2 zs2.length c2) 31) (.agg #[.bool b1, .slice A1 zs1.length c1]) x := ⟨b1, A1, c1, zs1, rfl, hs1, h1.below hbb⟩
  have hi2 : RefAt (begun2 w (.bool b1) (.slice A1 zs1.length c1) (.bool b2) (.slice A2 zs2.length c2) 31) (.agg #[.bool b2, .slice A2 zs2.length c2]) y := ⟨b2, A2, c2, zs2, rfl, hs2, h2.below hbb⟩
  have H := Lib.hid (And.intro hbb (And.intro hx0 (And.intro hy0 (And.intro hr0 hsz))))
  clear hbb hx0 hy0 hr0 hsz
  go_enter Try.func41, Try.ntmps41
  go_wp2_with fail
  go_region_held3 (fun w' => w'.cell? ⟨w.heap.size, 0, none⟩ = some (.bool b1) ∧ w'.cell? ⟨w.heap.size, 1, none⟩ = some (.slice A1 zs1.length c1) ∧ w'.cell? ⟨w.heap.size + 1, 0, none⟩ = some (.bool b2) ∧ w'.cell? ⟨w.heap.size + 1, 1, none⟩ = some (.slice A2 zs2.length c2))
    (((try dsimp only); (repeat' apply And.intro) <;> (first | (with_reducible assumption) | go_keep)))
    ((first | (go_at_call 35; refine (RNeg_any (.agg #[.bool b2, .slice A2 zs2.length c2]) y m _ (by exact hi2) hy (by omega)).mono ?_; rintro e w1 ⟨v1, rfl, hi3, hb1⟩; have hi1' := hi1.step hb1 rfl; have k1x := H.out.2.1.step hb1 rfl (by rw [H.out.2.2.2.2]; (try omega)); have k1y := H.out.2.2.1.step hb1 rfl (by rw [H.out.2.2.2.2]; (try omega)); have k1r := H.out.2.2.2.1.step hb1 rfl (by rw [H.out.2.2.2.2]; (try omega)); obtain ⟨px0, px1⟩ := id k1x; obtain ⟨py0, py1⟩ := id k1y; have hs1' : w.heap.size + 3 ≤ w1.heap.size := Nat.le_trans (Nat.le_of_eq H.out.2.2.2.2.symm) hb1.size) | (go_at_call 39; refine (RAdd_any (.agg #[.bool b1, .slice A1 zs1.length c1]) v1 x (-y) m _ (by exact hi1') (by exact hi3) hm hx (by rw [Int.natAbs_neg]; exact hy)).mono ?_; rintro e w2 ⟨v2, rfl, ⟨b4, A4, c4, zs4, rfl, hsg4, hl4⟩, hb2⟩; have k2x := k1x.step hb2 rfl (by omega); have k2y := k1y.step hb2 rfl (by omega); have k2r := k1r.step hb2 rfl (by omega); obtain ⟨hx0, hx1⟩ := id k2x; obtain ⟨hy0, hy1⟩ := id k2y; obtain ⟨⟨hr0, hr1⟩, hf0, hf1⟩ := id k2r; obtain ⟨qx0, qx1⟩ := k2x.far (r := w.heap.size + 1 + 1) (by omega) (.bool b4) (.slice A4 zs4.length c4); obtain ⟨qy0, qy1⟩ := k2y.far (r := w.heap.size + 1 + 1) (by omega) (.bool b4) (.slice A4 zs4.length c4))))
  go_wp2
  refine bodyPost_ret (v := .agg #[.bool b4, .slice A4 zs4.length c4]) (by simp [results, Try.results41, go_sem, hr0, hr1]) rfl ?_
  exact ref_stored k2r hsg4 hl4 (below_then (below_then H.out.1.drew hb1) hb2) (by omega)

/-- x - y. -/
theorem RSub_any (v1 v2 : Value) (x y : Int) (m : Nat) (w : World) (h1 : RefAt w v1 x) (h2 : RefAt w v2 y) (hm : m ≤ 900000) (hx : x.natAbs < BD ^ m) (hy : y.natAbs < BD ^ m) :
    Calls Try.prog 41 #[v1, v2] w fun e w' => IsRef w w' (x - y) e := by
  obtain ⟨b1, A1, c1, zs1, rfl, hs1, hl1⟩ := h1
  obtain ⟨b2, A2, c2, zs2, rfl, hs2, hl2⟩ := h2
  exact rsub_ints b1 b2 A1 c1 zs1 A2 c2 zs2 x y m w hs1 hs2 hl1 hl2 hm hx hy
theorem rsign_zero {w : World} {A : Option Addr} {c : Nat} {zs : List Nat} {z : Int} (h : Digs w A c zs z.natAbs) (h0 : zs.length = 0) : z.sign = 0 := by
  have hz : zs = [] := List.eq_nil_of_length_eq_zero h0
  subst hz
  have hv : 0 = z.natAbs := h.2.2.2.2
  have hz : z = 0 := by omega
  rw [hz]
  rfl
theorem rsign_pos {w : World} {A : Option Addr} {c : Nat} {zs : List Nat} {z : Int} (h : Digs w A c zs z.natAbs) (h0 : 0 < zs.length) : z ≠ 0 := by
  have := Lm.val_pos BD_pos h0 h.2.2.2.1
  rw [h.2.2.2.2] at this
  omega

set_option maxRecDepth 100000 in
set_option maxHeartbeats 1000000 in
theorem RSign_any (v : Value) (z : Int) (m : Nat) (w : World) (h : RefAt w v z) (hm : m ≤ 900000) (hz : z.natAbs < BD ^ m) :
    Calls Try.prog 23 #[v] w fun e w' => IsNum w w' z.sign e := by
  obtain ⟨b, A, c, zs, rfl, hs, hl⟩ := h
  have hlen := Nat.le_trans (hl.len hz) hm
  rcases Nat.eq_zero_or_pos zs.length with h0 | h0
  · have H := Lib.hid (rsign_zero hl h0)
    rw [h0]
    clear hl h0
    go_enter Try.func23, Try.ntmps23
    go_wp2
    go_ret
    exact ⟨by rw [H.out]; rfl, (Below.refl _ _).alloc (Nat.le_refl _) _⟩
  · have hne := rsign_pos hl h0
    have hf : ((zs.length : Int) == 0) = false := by rw [beq_eq_false_iff_ne]; omega
    cases b
    · have hp : z.sign = 1 := Int.sign_eq_one_of_pos (by have := sign_of_pos hs; omega)
      have H := Lib.hid hp
      clear hp hl hne hs
      go_enter Try.func23, Try.ntmps23
      go_wp2
      go_ret
      exact ⟨by rw [H.out]; rfl, (Below.refl _ _).alloc (Nat.le_refl _) _⟩
    · have hp : z.sign = -1 := Int.sign_eq_neg_one_of_neg (sign_of_neg hs)
      have H := Lib.hid hp
      clear hp hl hne hs
      go_enter Try.func23, Try.ntmps23
      go_wp2
      go_ret
      exact ⟨by rw [H.out]; rfl, (Below.refl _ _).alloc (Nat.le_refl _) _⟩


theorem sign_cmp (x y : Int) : (x - y).sign = cmpZ x y := by
  unfold cmpZ
  by_cases h : x < y
  · rw [if_pos h, Int.sign_eq_neg_one_of_neg (by omega)]
  · rw [if_neg h]
    by_cases h' : y < x
    · rw [if_pos h', Int.sign_eq_one_of_pos (by omega)]
    · rw [if_neg h', show x - y = 0 by omega]
      rfl

set_option maxRecDepth 100000 in
set_option maxHeartbeats 2000000 in
theorem RCmp_any (v1 v2 : Value) (x y : Int) (m : Nat) (w : World) (h1 : RefAt w v1 x) (h2 : RefAt w v2 y) (hm : m < 900000) (hx : x.natAbs < BD ^ m) (hy : y.natAbs < BD ^ m) :
    Calls Try.prog 33 #[v1, v2] w fun e w' => IsNum w w' (cmpZ x y) e := by
  obtain ⟨b1, A1, c1, zs1, rfl, hs1, hd1⟩ := h1
  obtain ⟨b2, A2, c2, zs2, rfl, hs2, hd2⟩ := h2
  have hbel := boxed2_below w (.cells #[.bool b1, .slice A1 zs1.length c1] 31) (.cells #[.bool b2, .slice A2 zs2.length c2] 31)
  have hsub := RSub_any (.agg #[.bool b1, .slice A1 zs1.length c1]) (.agg #[.bool b2, .slice A2 zs2.length c2]) x y m _ ⟨b1, A1, c1, zs1, rfl, hs1, hd1.step hbel rfl⟩ ⟨b2, A2, c2, zs2, rfl, hs2, hd2.step hbel rfl⟩ (Nat.le_of_lt hm) hx hy
  have hfit : (x - y).natAbs < BD ^ (m + 1) := by
    rw [Nat.pow_succ]
    have : BD ^ m * 2 ≤ BD ^ m * BD := Nat.mul_le_mul_left _ (by decide)
    omega
  have H := Lib.hid (And.intro hsub (And.intro hbel (And.intro hfit hm)))
  clear hsub hbel hfit hs1 hs2 hd1 hd2 hx hy hm
  go_enter Try.func33, Try.ntmps33
  go_wp2_with fail
  refine H.out.1.mono ?_
  rintro e w1 ⟨v1, rfl, hi1, hb1⟩
  go_wp2_with fail
  refine (RSign_any v1 (x - y) (m + 1) w1 hi1 (by have := H.out.2.2.2; omega) H.out.2.2.1).mono ?_
  rintro e w2 ⟨rfl, hb2⟩
  go_wp2
  go_ret
  rw [sign_cmp]
  exact ⟨rfl, below_then (below_then H.out.2.1 hb1) hb2⟩

theorem rodd_val {ds : List Nat} (h : 0 < ds.length) : Lm.val BD ds % 2 = ds.getD 0 0 % 2 := by
  cases ds with
  | nil => simp at h
  | cons x xs =>
    rw [Lm.val_cons]
    have : BD * Lm.val BD xs = 2 * (32768 * Lm.val BD xs) := by unfold BD; omega
    rw [this]
    simp

set_option maxRecDepth 100000 in
set_option maxHeartbeats 1000000 in
theorem ROdd_any (v : Value) (z : Int) (w : World) (h : RefAt w v z) : Calls Try.prog 25 #[v] w fun e w' => IsBool w w' (oddB z) e := by
  obtain ⟨b, A, c, zs, rfl, hs, hl⟩ := h
  by_cases h0 : 0 < zs.length
  · obtain ⟨ad, rfl, hblk, hcell⟩ := hl.2.1 h0
    have hcd0 := hcell 0 h0
    have hcd := (World.cell?_alloc_lt w (.cells #[.bool b, .slice (some ad) zs.length c] 31) (ad.add 0) (by rw [block_of_add]; exact hblk)).trans hcd0
    have hlim := dig_lt hl.2.2.1 0
    have hodd := rodd_val h0
    rw [hl.2.2.2.2] at hodd
    clear hcell hcd0
    obtain ⟨d, hd⟩ : ∃ d, zs.getD 0 0 = d := ⟨_, rfl⟩
    rw [hd] at hcd hlim hodd
    have hpos : (0 : Int) < (zs.length : Int) := by omega
    have hadd : ad.add 0 = ad := by unfold Addr.add; simp
    rw [hadd] at hcd
    have d0 : (0 : Int) ≤ (d : Int) := Int.natCast_nonneg d
    have d1 : (d : Int) ≤ 65535 := by unfold BD at hlim; omega
    have HO := Lib.hid hodd
    clear hodd hd hadd hl hlim
    by_cases h1 : d % 2 = 1
    · have hb : ((d : Int) % 2 == 1) = true := by rw [beq_iff_eq]; omega
      have HT := Lib.hid (show oddB z = true from decide_eq_true (HO.out.trans h1))
      clear h1
      go_enter Try.func25, Try.ntmps25
      go_wp2
      go_ret
      rw [HT.out]
      exact ⟨rfl, (Below.refl _ _).alloc (Nat.le_refl _) _⟩
    · have hb : ((d : Int) % 2 == 1) = false := by rw [beq_eq_false_iff_ne]; omega
      have HT := Lib.hid (show oddB z = false from decide_eq_false (fun e => h1 (HO.out.symm.trans e)))
      clear h1
      go_enter Try.func25, Try.ntmps25
      go_wp2
      go_ret
      rw [HT.out]
      exact ⟨rfl, (Below.refl _ _).alloc (Nat.le_refl _) _⟩
  · have hz : zs = [] := by cases zs with
      | nil => rfl
      | cons a l => simp at h0
    subst hz
    have hn : z.natAbs = 0 := hl.2.2.2.2.symm
    have HT := Lib.hid (show oddB z = false from decide_eq_false (by rw [hn]; decide))
    clear hn h0
    go_enter Try.func25, Try.ntmps25
    go_wp2
    go_ret
    rw [HT.out]
    exact ⟨rfl, (Below.refl _ _).alloc (Nat.le_refl _) _⟩
end Go.Proofs.Ytllkajlmfbikhaa
