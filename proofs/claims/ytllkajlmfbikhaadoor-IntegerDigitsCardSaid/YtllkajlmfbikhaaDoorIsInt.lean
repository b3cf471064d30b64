/- What the law's Is does: it tells whether the program's integer is the reference's one. -/
import Derived.Test.YtllkajlmfbikhaaDoorIs
namespace Go.Proofs.YtllkajlmfbikhaaDoor
open Go.RowKit

theorem is_not {x y : Int} {b1 b2 : Bool} (h1 : SignOf b1 x) (h2 : SignOf b2 y) (hne : (b1 == b2) = false) : decide (x = y) = false := by
  refine decide_eq_false (fun h => ?_)
  subst h
  unfold SignOf at h1 h2
  rw [h1, h2] at hne
  simp at hne
theorem is_yes {x y : Int} {b : Bool} (h1 : SignOf b x) (h2 : SignOf b y) {w w' : World} {A A' : Option Addr} {c c' : Nat} {zs zs' : List Nat} (k1 : Limbs w A c zs x.natAbs) (k2 : Limbs w' A' c' zs' y.natAbs) : decide (zs = zs') = decide (x = y) := by
  unfold SignOf at h1 h2
  rw [h1] at h2
  have h3 : (x < 0) = (y < 0) := by simpa using h2
  by_cases h : zs = zs'
  · subst h
    have e : x.natAbs = y.natAbs := by rw [← k1.2.2.2.2, k2.2.2.2.2]
    have e' : x = y := by
      by_cases hx : x < 0
      · have hy := hx; rw [h3] at hy; omega
      · have hy := hx; rw [h3] at hy; omega
    simp [e']
  · have e' : ¬ x = y := by
      rintro rfl
      exact h (Lm.uniq B32_one k1.2.2.1 k2.2.2.1 k1.2.2.2.1 k2.2.2.2.1 (by rw [k1.2.2.2.2, k2.2.2.2.2]))
    simp [h, e']

set_option maxRecDepth 100000 in
set_option maxHeartbeats 1000000 in
theorem is_ints (b1 b2 : Bool) (A1 : Option Addr) (c1 : Nat) (zs1 : List Nat) (A2 : Option Addr) (c2 : Nat) (ds : List Nat) (x y : Int) (w : World) (hs1 : SignOf b1 x) (hs2 : SignOf b2 y)
    (h1 : Limbs w A1 c1 zs1 x.natAbs) (h2 : Digs w A2 c2 ds y.natAbs) (hl1 : zs1.length ≤ 900000) (hl2 : ds.length ≤ 900000) :
    Calls Tryd.prog 20 #[.agg #[.bool b1, .slice A1 zs1.length c1], .agg #[.bool b2, .slice A2 ds.length c2]] w fun e w' => IsBool w w' (decide (x = y)) e := by
  have hbb := boxed2_below w (.cells #[.bool b1, .slice A1 zs1.length c1] 28) (.cells #[.bool b2, .slice A2 ds.length c2] 53)
  have hi1 : IntAt ((w.alloc (.cells #[.bool b1, .slice A1 zs1.length c1] 28)).alloc (.cells #[.bool b2, .slice A2 ds.length c2] 53)) (.agg #[.bool b1, .slice A1 zs1.length c1]) x := ⟨b1, A1, c1, zs1, rfl, hs1, h1.below hbb⟩
  have hd0 := h2.step hbb rfl
  have hy0 := Two.new (w.alloc (.cells #[.bool b1, .slice A1 zs1.length c1] 28)) (.bool b2) (.slice A2 ds.length c2) 53
  rw [size_alloc] at hy0
  have hlim := Limbs_any (.agg #[.bool b1, .slice A1 zs1.length c1]) x zs1.length _ hi1 (by rw [← h1.2.2.2.2]; exact Lm.val_lt h1.2.2.1) (by omega)
  have H := Lib.hid (And.intro hbb (And.intro hd0 (And.intro hy0 hlim)))
  clear hbb hd0 hy0 hlim hi1
  go_enter Tryd.func20, Tryd.ntmps20
  go_wp2_with fail
  refine H.out.2.2.2.mono ?_
  rintro e w1 ⟨b3, A3, c3, zs3, rfl, hs3, hl3, hb1⟩
  obtain rfl : b3 = b1 := by unfold SignOf at hs1 hs3; rw [hs1, hs3]
  have hd1 := H.out.2.1.step hb1 rfl
  have k1 := H.out.2.2.1.step hb1 rfl (by simp)
  have hsz : w.heap.size + 2 ≤ w1.heap.size := by have := hb1.size; simp at this; omega
  obtain ⟨py0, py1⟩ := id k1
  have hle3 : zs3.length ≤ 1000000 := by have := hl3.len (m := zs1.length) (by rw [← h1.2.2.2.2]; exact Lm.val_lt h1.2.2.1); omega
  rcases hb : (b3 == b2) with _ | _
  · have HN := Lib.hid (is_not hs1 hs2 hb)
    go_wp2
    go_ret
    exact ⟨by rw [HN.out]; rfl, below_then H.out.1 hb1⟩
  · have hbe : b2 = b3 := by have : b3 = b2 := by simpa using hb
                             exact this.symm
    subst hbe
    go_wp2_with fail
    refine (RLimbs_any b2 A2 c2 ds y.natAbs w1 hd1 (by omega)).mono ?_
    rintro e w2 ⟨A4, c4, zs4, rfl, hl4, hb2⟩
    have hn3 := hl3.2.1.below hb2
    have hle4 : zs4.length ≤ 1000000 := by
      have := hl4.len (m := ds.length) (by rw [← h2.2.2.2.2]; exact Nat.lt_of_lt_of_le (Lm.val_lt h2.2.2.1) (Nat.pow_le_pow_left (by decide) _))
      omega
    go_wp2_with fail
    refine (equal_any A3 c3 zs3 A4 c4 zs4 w2 hn3 hl4.2.1 hle3).mono ?_
    rintro e w3 ⟨hd, rfl⟩
    have HE := Lib.hid (is_yes hs1 hs2 hl3 hl4)
    go_wp2
    go_ret
    exact ⟨by rw [← HE.out]; rfl, (below_then (below_then H.out.1 hb1) hb2).trans (hd.below _)⟩

/-- Is tells whether both are one number. -/
theorem Is_any (v1 v2 : Value) (x y : Int) (m : Nat) (w : World) (h1 : IntAt w v1 x) (h2 : RefAt w v2 y) (hm : m ≤ 900000) (hx : x.natAbs < B32 ^ m) (hy : y.natAbs < BD ^ m) :
    Calls Tryd.prog 20 #[v1, v2] w fun e w' => IsBool w w' (decide (x = y)) e := by
  obtain ⟨b1, A1, c1, zs1, rfl, hs1, hl1⟩ := h1
  obtain ⟨b2, A2, c2, zs2, rfl, hs2, hl2⟩ := h2
  exact is_ints b1 b2 A1 c1 zs1 A2 c2 zs2 x y w hs1 hs2 hl1 hl2 (Nat.le_trans (hl1.len hx) hm) (Nat.le_trans (hl2.len hy) hm)
end Go.Proofs.YtllkajlmfbikhaaDoor
