/- What divide of package integer does by one limb, and Divide with a divisor of one limb. -/
import Derived.Test.YtllkajlmfbikhaaDoorDivLimb
namespace Go.Proofs.YtllkajlmfbikhaaDoor
open Go.RowKit

/-- A quotient and a rest. -/
def IsDivs (w w' : World) (a b : Nat) (e : Ending) : Prop :=
  ∃ A c zs A' c' zs', e = .returned (.tuple #[.slice A zs.length c, .slice A' zs'.length c']) ∧ Limbs w' A c zs (a / b) ∧ Limbs w' A' c' zs' (a % b) ∧ Below w.heap.size w w'

theorem limbs_cloned {w w' : World} {A : Option Addr} {c n : Nat} {zs : List Nat} {e : Ending} (h : Limbs w A c zs n) (hk : Cloned w w' zs e) : ∃ A' c', e = .returned (.slice A' zs.length c') ∧ Limbs w' A' c' zs n ∧ Below w.heap.size w w' := by
  obtain ⟨A', c', rfl, hown, hb⟩ := hk
  refine ⟨A', c', rfl, ⟨?_, Nums.of_own hown rfl, h.2.2⟩, hb⟩
  obtain ⟨A2, c2, e2, hle⟩ := own_form hown
  injection e2 with _ _ e3
  omega

set_option maxRecDepth 100000 in
set_option maxHeartbeats 1000000 in
theorem divide_one (A : Option Addr) (c : Nat) (xs : List Nat) (A' : Option Addr) (c' : Nat) (d a : Nat) (w : World) (hx : Limbs w A c xs a) (hy : Limbs w A' c' [d] d) (hl : xs.length ≤ 900000) (hd : 0 < d) :
    Calls Tryd.prog 41 #[.slice A xs.length c, .slice A' 1 c'] w fun e w' => IsDivs w w' a d e := by
  have hdl : d < 4294967296 := hy.2.2.1.head
  rcases Nat.lt_or_ge a d with h | h
  · have hc := compare_lt A c xs A' c' [d] w hx.2.1 hy.2.1 hx.2.2.1 hy.2.2.1 hx.2.2.2.1 hy.2.2.2.1 (by omega) (by rw [hx.2.2.2.2, hy.2.2.2.2]; exact h)
    have HC := Lib.hid hc
    have hx' := hx.2.1
    clear hc
    go_enter Tryd.func41, Tryd.ntmps41
    go_wp2_with fail
    refine HC.out.mono ?_
    rintro e w' ⟨⟨n, rfl⟩, rfl⟩
    go_wp2_with fail
    refine (clone_any A c xs (w.drewN n) (by exact hx') (by omega)).mono ?_
    intro e w1 hcl
    obtain ⟨A1, c1, rfl, hl1, hb1⟩ := limbs_cloned (w := w.drewN n) (by exact ⟨hx.1, hx', hx.2.2⟩) hcl
    go_wp2
    go_ret2
    exact ⟨none, 0, [], A1, c1, xs, rfl, ⟨by simp, Nums.nil _ _ _, .nil _, Lm.Top.nil, by rw [Nat.div_eq_of_lt h]; rfl⟩, by rw [Nat.mod_eq_of_lt h]; exact hl1, ⟨hb1.os, hb1.tape, hb1.output, hb1.size, hb1.block⟩⟩
  · have hc := compare_ge A c xs A' c' [d] w hx.2.1 hy.2.1 hx.2.2.1 hy.2.2.1 hx.2.2.2.1 hy.2.2.2.1 (by omega) (by rw [hx.2.2.2.2, hy.2.2.2.2]; exact h)
    have HC := Lib.hid hc
    have hx' := hx.2.1
    obtain ⟨ad, rfl, _, hcell⟩ := hy.2.1.at_ (j := 0) (by simp)
    have hcy := hcell 0 (by simp)
    simp only [Addr.add, if_pos, List.getD_cons_zero] at hcy
    clear hc hcell
    go_enter Tryd.func41, Tryd.ntmps41
    go_wp2_with fail
    refine HC.out.mono ?_
    rintro e w' ⟨⟨n, rfl⟩, k, hk, rfl⟩
    go_wp2_with fail
    refine (divideByLimb_any A c xs d (w.drewN n) (by exact hx') hx.2.2.1 hl hd hdl).mono ?_
    rintro e w1 ⟨A1, c1, zs1, rfl, hl1, hb1⟩
    rw [hx.2.2.2.2] at hl1
    rw [hx.2.2.2.2]
    have hr : a % d < 4294967296 := Nat.lt_trans (Nat.mod_lt _ hd) hdl
    obtain ⟨r, hre⟩ : ∃ r, a % d = r := ⟨_, rfl⟩
    rw [hre] at hr ⊢
    have HR := Lib.hid hre
    clear hre
    go_wp2_with fail
    refine (word_any r w1 (by omega)).mono ?_
    rintro e w2 ⟨A2, c2, zs2, rfl, hl2, hb2⟩
    go_wp2
    go_ret2
    refine ⟨A1, c1, zs1, A2, c2, zs2, rfl, hl1.below hb2, by rw [HR.out]; exact hl2, ?_⟩
    exact below_then ⟨hb1.os, hb1.tape, hb1.output, hb1.size, hb1.block⟩ hb2

theorem neg_of (a : Nat) (h : 0 < a) : decide (-(a : Int) < 0) = true := decide_eq_true (by omega)
theorem not_neg (a : Nat) : decide ((a : Int) < 0) = false := decide_eq_false (by omega)

theorem div_parts {x y : Int} {b1 b2 b3 : Bool} (hx : SignOf b1 x) (hy : SignOf b2 y) (h : (b1 != b2) = b3) : ofSign b3 (x.natAbs / y.natAbs) = x.tdiv y := by
  unfold SignOf at hx hy
  subst hx
  subst hy
  subst h
  unfold ofSign
  obtain ⟨a, rfl | rfl⟩ := Int.eq_nat_or_neg x <;> obtain ⟨b, rfl | rfl⟩ := Int.eq_nat_or_neg y
  all_goals simp only [Int.natAbs_neg, Int.natAbs_natCast, Int.neg_tdiv, Int.tdiv_neg, ← Int.ofNat_tdiv, not_neg]
  · rfl
  · rcases Nat.eq_zero_or_pos b with rfl | hb
    · simp
    · rw [neg_of b hb]; rfl
  · rcases Nat.eq_zero_or_pos a with rfl | ha
    · simp
    · rw [neg_of a ha]; rfl
  · rcases Nat.eq_zero_or_pos a with rfl | ha
    · simp
    · rcases Nat.eq_zero_or_pos b with rfl | hb
      · simp
      · rw [neg_of a ha, neg_of b hb, Int.neg_neg]; rfl

theorem mod_parts {x y : Int} {b1 : Bool} (hx : SignOf b1 x) : ofSign b1 (x.natAbs % y.natAbs) = x.tmod y := by
  unfold SignOf at hx
  subst hx
  unfold ofSign
  obtain ⟨a, rfl | rfl⟩ := Int.eq_nat_or_neg x <;> obtain ⟨b, rfl | rfl⟩ := Int.eq_nat_or_neg y
  all_goals simp only [Int.natAbs_neg, Int.natAbs_natCast, Int.neg_tmod, Int.tmod_neg, ← Int.ofNat_tmod, not_neg]
  · rfl
  · rfl
  · rcases Nat.eq_zero_or_pos a with rfl | ha
    · simp
    · rw [neg_of a ha]; rfl
  · rcases Nat.eq_zero_or_pos a with rfl | ha
    · simp
    · rw [neg_of a ha]; rfl

/-- A quotient and a rest of two integers, without an error. -/
def IsQuoRem (w w' : World) (x y : Int) (e : Ending) : Prop :=
  ∃ v1 v2, e = .returned (.tuple #[v1, v2, .int .i64 0]) ∧ IntAt w' v1 (x.tdiv y) ∧ IntAt w' v2 (x.tmod y) ∧ Below w.heap.size w w'

theorem Limbs.step {W0 W w1 : World} {A : Option Addr} {c n : Nat} {zs : List Nat} (t : Limbs W0 A c zs n) (hb : Below W.heap.size W w1) (hh : W.heap = W0.heap) : Limbs w1 A c zs n := by
  have e : ∀ p, W.cell? p = W0.cell? p := fun p => by simp [World.cell?, hh]
  refine ⟨t.1, fun hn => ?_, t.2.2⟩
  obtain ⟨ad, ea, hlt, hc⟩ := t.2.1 hn
  rw [← hh] at hlt
  exact ⟨ad, ea, Nat.lt_of_lt_of_le hlt hb.size, fun j hj => ((hb.cell (by rw [block_of_add]; exact hlt)).trans (e _)).trans (hc j hj)⟩

theorem Nums.res {w : World} {k : IntKind} {A : Option Addr} {xs : List Nat} {r : Nat} (h : Nums w k A xs) (t : Two w r (.bool false) (.slice none 0 0)) (u v : Value) : Nums ((w.setCell ⟨r, 0, none⟩ u).setCell ⟨r, 1, none⟩ v) k A xs := by
  refine (h.store t.1 (fun n e => by cases e) u).store (u := .slice none 0 0) ?_ (fun n e => by cases e) v
  rw [World.cell?_setCell_other _ _ _ _ (by simp)]
  exact t.2

theorem Two.stored {w : World} {r : Nat} {a b : Value} (t : Two w r a b) (u v : Value) : Two ((w.setCell ⟨r, 0, none⟩ u).setCell ⟨r, 1, none⟩ v) r u v := by
  refine ⟨?_, ?_⟩
  · rw [World.cell?_setCell_other _ _ _ _ (by simp)]
    exact World.cell?_setCell_same _ _ _ t.1
  · exact World.cell?_setCell_same _ _ _ ((World.cell?_setCell_other _ _ _ _ (by simp)).trans t.2)

/-- The world in which Divide begins its work. -/
def begun4 (w : World) (a b c d : Value) (t : TypeId) : World := (begun2 w a b c d t).alloc (.cells #[.bool false, .slice none 0 0] t)

theorem small_len {w : World} {A : Option Addr} {c n m : Nat} {zs : List Nat} (h : Limbs w A c zs n) (xs : List Nat) (ox : Lm.Ok B32 xs) (hn : n ≤ Lm.val B32 xs) (hl : xs.length ≤ m) : zs.length ≤ m := by
  have := h.len (m := xs.length) (Nat.lt_of_le_of_lt hn (Lm.val_lt ox))
  omega

set_option maxRecDepth 100000 in
set_option maxHeartbeats 1000000 in
theorem divide_ft (A1 : Option Addr) (c1 : Nat) (zs1 : List Nat) (A2 : Option Addr) (c2 d : Nat) (x y : Int) (w : World) (hs1 : SignOf true x) (hs2 : SignOf false y)
    (h1 : Limbs w A1 c1 zs1 x.natAbs) (h2 : Limbs w A2 c2 [d] y.natAbs) (hl1 : zs1.length ≤ 900000) :
    Calls Tryd.prog 18 #[.agg #[.bool true, .slice A1 zs1.length c1], .agg #[.bool false, .slice A2 1 c2]] w fun e w' => IsQuoRem w w' x y e := by
  have hd : d = y.natAbs := by have := h2.2.2.2.2; simpa [Lm.val] using this
  have hd0 : 0 < d := by have := Lm.val_pos B32_pos (by simp) h2.2.2.2.1; rw [h2.2.2.2.2] at this; omega
  have hbb := (begun2_below w (.bool true) (.slice A1 zs1.length c1) (.bool false) (.slice A2 1 c2) 28).alloc (begun2_below w (.bool true) (.slice A1 zs1.length c1) (.bool false) (.slice A2 1 c2) 28).size (.cells #[.bool false, .slice none 0 0] 28)
  have hsz0 := begun2_size w (.bool true) (.slice A1 zs1.length c1) (.bool false) (.slice A2 1 c2) 28
  have hx0 := (begun2_x w (.bool true) (.slice A1 zs1.length c1) (.bool false) (.slice A2 1 c2) 28).alloc (by omega) (.cells #[.bool false, .slice none 0 0] 28)
  have hy0 := (begun2_y w (.bool true) (.slice A1 zs1.length c1) (.bool false) (.slice A2 1 c2) 28).alloc (by omega) (.cells #[.bool false, .slice none 0 0] 28)
  have hr0 := (begun2_r w (.bool true) (.slice A1 zs1.length c1) (.bool false) (.slice A2 1 c2) 28).step ((Below.refl _ _).alloc (Nat.le_refl _) (.cells #[.bool false, .slice none 0 0] 28)) rfl (by omega)
  have hq0 := Res.new (begun2 w (.bool true) (.slice A1 zs1.length c1) (.bool false) (.slice A2 1 c2) 28) 28
  rw [hsz0] at hq0
  have hsz : (begun4 w (.bool true) (.slice A1 zs1.length c1) (.bool false) (.slice A2 1 c2) 28).heap.size = w.heap.size + 4 := by unfold begun4; rw [size_alloc, hsz0]
  have hi2 : IntAt (begun4 w (.bool true) (.slice A1 zs1.length c1) (.bool false) (.slice A2 1 c2) 28) (.agg #[.bool false, .slice A2 1 c2]) y := ⟨false, A2, c2, [d], rfl, hs2, h2.below hbb⟩
  have hl2' := h2.below hbb
  have hl1' := h1.below hbb
  have hyb : y.natAbs < B32 ^ 1 := by rw [← hd, Nat.pow_one]; exact h2.2.2.1.head
  have hsg := Sign_any _ y 1 _ hi2 (by omega) hyb
  have hyn : (y.sign == 0) = false := by rw [beq_eq_false_iff_ne]; intro h; have := Int.sign_eq_zero_iff_zero.1 h; omega
  have H := Lib.hid (And.intro hbb (And.intro hx0 (And.intro hy0 (And.intro hr0 (And.intro hq0 (And.intro hsz (And.intro hsg (And.intro hl1' (And.intro hl2' hd)))))))))
  have tok1 : True := trivial
  clear hbb hsz0 hx0 hy0 hr0 hq0 hsz hi2 hl2' hl1' hyb hsg hd
  go_enter Tryd.func18, Tryd.ntmps18
  go_wp2_with fail
  refine H.out.2.2.2.2.2.2.1.mono ?_
  rintro e w1 ⟨rfl, hb1⟩
  have j1 : w.heap.size + 4 ≤ w1.heap.size := Nat.le_trans (Nat.le_of_eq H.out.2.2.2.2.2.1.symm) hb1.size
  have k1x := H.out.2.1.step hb1 rfl (Nat.lt_of_lt_of_eq (m := w.heap.size + 4) (by omega) H.out.2.2.2.2.2.1.symm)
  have k1y := H.out.2.2.1.step hb1 rfl (Nat.lt_of_lt_of_eq (m := w.heap.size + 4) (by omega) H.out.2.2.2.2.2.1.symm)
  have k1r := H.out.2.2.2.1.step hb1 rfl (Nat.lt_of_lt_of_eq (m := w.heap.size + 4) (by omega) H.out.2.2.2.2.2.1.symm)
  have k1q := H.out.2.2.2.2.1.step hb1 rfl (Nat.lt_of_lt_of_eq (m := w.heap.size + 4) (by omega) H.out.2.2.2.2.2.1.symm)
  obtain ⟨px0, px1⟩ := id k1x
  obtain ⟨py0, py1⟩ := id k1y
  have hdv := divide_one A1 c1 zs1 A2 c2 d x.natAbs w1 (H.out.2.2.2.2.2.2.2.1.step hb1 rfl) (by have := H.out.2.2.2.2.2.2.2.2.1.step hb1 rfl; rw [← H.out.2.2.2.2.2.2.2.2.2] at this; exact this) hl1 hd0
  rw [H.out.2.2.2.2.2.2.2.2.2] at hdv
  have HD := Lib.hid hdv
  clear hdv
  go_wp2_with fail
  refine HD.out.mono ?_
  rintro e w2 ⟨Aq, cq, zq, Ar, cr, zr, rfl, hq, hr, hb2⟩
  have j2 : w.heap.size + 4 ≤ w2.heap.size := Nat.le_trans j1 hb2.size
  have k2x := k1x.step hb2 rfl (by omega)
  have k2y := k1y.step hb2 rfl (by omega)
  have k2r := k1r.step hb2 rfl (by omega)
  have k2q := k1q.step hb2 rfl (by omega)
  have hlq : zq.length ≤ 1000000 := by have := small_len (m := 900000) hq zs1 h1.2.2.1 (by rw [h1.2.2.2.2]; exact Nat.div_le_self _ _) hl1; omega
  have hlr : zr.length ≤ 1000000 := by have := small_len (m := 900000) hr zs1 h1.2.2.1 (by rw [h1.2.2.2.2]; exact Nat.mod_le _ _) hl1; omega
  clear px0 px1 py0 py1
  obtain ⟨px0, px1⟩ := id k2x
  obtain ⟨py0, py1⟩ := id k2y
  go_wp2_with fail
  go_region_held3 (fun w' => w'.cell? ⟨w.heap.size, 0, none⟩ = some (.bool true) ∧ w'.cell? ⟨w.heap.size + 1, 0, none⟩ = some (.bool false))
    (((try dsimp only); (repeat' apply And.intro) <;> (first | (with_reducible assumption) | go_keep)))
    ((first | (go_at_call 27; have _t := tok1; refine (signed_to true Aq cq zq (x.tdiv y) _ (by exact hq.2.1) hq.2.2.1 hlq hq.1 (by rw [hq.2.2.2.2]; exact div_parts hs1 hs2 rfl)).mono ?_; rintro e w3 ⟨v3, rfl, ⟨b3, A3, c3, zs3, rfl, hsg3, hl3⟩, hb3⟩; clear tok1; have j3 : w.heap.size + 4 ≤ w3.heap.size := Nat.le_trans j2 hb3.size; have k3x := k2x.step hb3 rfl (by omega); have k3y := k2y.step hb3 rfl (by omega); have k3r := k2r.step hb3 rfl (by omega); have k3q := k2q.step hb3 rfl (by omega); have hr3 := hr.step hb3 rfl; obtain ⟨qx0, qx1⟩ := id k3x; obtain ⟨qy0, qy1⟩ := id k3y) | (go_at_call 27; refine (signed_to true Ar cr zr (x.tmod y) _ (by exact hr3.2.1) hr3.2.2.1 hlr hr3.1 (by rw [hr3.2.2.2.2]; exact mod_parts hs1)).mono ?_; rintro e w4 ⟨v4, rfl, ⟨b4, A4, c4, zs4, rfl, hsg4, hl4⟩, hb4⟩; have k4x := k3x.step hb4 rfl (by omega); have k4y := k3y.step hb4 rfl (by omega); have k4r := k3r.step hb4 rfl (by omega); have k4q := k3q.step hb4 rfl (by omega); have hl3' := hl3.step hb4 rfl; obtain ⟨sx0, sx1⟩ := id k4x; obtain ⟨sy0, sy1⟩ := id k4y; obtain ⟨⟨hr0, hr1⟩, hf0, hf1⟩ := id k4r; obtain ⟨⟨hq0, hq1⟩, hg0, hg1⟩ := id k4q; have m1 := k4x.far (r := w.heap.size + 2) (by omega) (.bool b3) (.slice A3 zs3.length c3); have m2 := k4y.far (r := w.heap.size + 2) (by omega) (.bool b3) (.slice A3 zs3.length c3); have m3 := m1.far (r := w.heap.size + 3) (by omega) (.bool b4) (.slice A4 zs4.length c4); have m4 := m2.far (r := w.heap.size + 3) (by omega) (.bool b4) (.slice A4 zs4.length c4); obtain ⟨m1a, m1b⟩ := id m1; obtain ⟨m2a, m2b⟩ := id m2; obtain ⟨m3a, m3b⟩ := id m3; obtain ⟨m4a, m4b⟩ := id m4)))
  go_wp2
  have e1 := (k4r.1.stored (.bool b3) (.slice A3 zs3.length c3)).far (r := w.heap.size + 3) (by omega) (.bool b4) (.slice A4 zs4.length c4)
  have e0 := k4q.1.far (r := w.heap.size + 2) (by omega) (.bool b3) (.slice A3 zs3.length c3)
  have e2 := e0.stored (.bool b4) (.slice A4 zs4.length c4)
  obtain ⟨e1a, e1b⟩ := id e1
  obtain ⟨e2a, e2b⟩ := id e2
  have hn3 := (hl3'.2.1.res k4r.1 (.bool b3) (.slice A3 zs3.length c3)).res e0 (.bool b4) (.slice A4 zs4.length c4)
  have hn4 := (hl4.2.1.res k4r.1 (.bool b3) (.slice A3 zs3.length c3)).res e0 (.bool b4) (.slice A4 zs4.length c4)
  have hbe := below_then (below_then (begun_then (begun_then H.out.1 hb1 rfl rfl rfl rfl) hb2 rfl rfl rfl rfl) ⟨hb3.os, hb3.tape, hb3.output, hb3.size, hb3.block⟩) hb4
  refine bodyPost_ret (v := .tuple #[.agg #[.bool b3, .slice A3 zs3.length c3], .agg #[.bool b4, .slice A4 zs4.length c4], .int .i64 0]) (by simp [results, Tryd.results18, go_sem, e1a, e1b, e2a, e2b]) rfl ?_
  exact ⟨_, _, rfl, ⟨b3, A3, c3, zs3, rfl, hsg3, hl3'.1, hn3, hl3'.2.2⟩, ⟨b4, A4, c4, zs4, rfl, hsg4, hl4.1, hn4, hl4.2.2⟩,
    (((hbe.setCell (p := ⟨w.heap.size + 2, 0, none⟩) (by simp) _).setCell (p := ⟨w.heap.size + 2, 1, none⟩) (by simp) _).setCell (p := ⟨w.heap.size + 3, 0, none⟩) (by simp) _).setCell (p := ⟨w.heap.size + 3, 1, none⟩) (by simp) _⟩

end Go.Proofs.YtllkajlmfbikhaaDoor
