/- What Floor of the reference does, for a divisor above 0. -/
import Derived.Test.YtagocllbfbbneaaRDivide
namespace Go.Proofs.Ytagocllbfbbneaa.RK
open Go.RowKit
set_option linter.unusedSimpArgs false

theorem floor_same {x y : Int} (h : x.tmod y = 0 ∨ 0 ≤ x) : x.tdiv y = x / y := by
  rw [Int.tdiv_eq_ediv]
  rcases h with h | h
  · rw [if_pos (.inr (Int.dvd_of_tmod_eq_zero h)), Int.add_zero]
  · rw [if_pos (.inl h), Int.add_zero]
theorem floor_less {x y : Int} (h0 : 0 < y) (hr : x.tmod y ≠ 0) (hx : x < 0) : x.tdiv y - 1 = x / y := by
  rw [Int.tdiv_eq_ediv, if_neg, Int.sign_eq_one_of_pos h0]
  · omega
  · rintro (h | h)
    · omega
    · exact hr (Int.tmod_eq_zero_of_dvd h)
theorem tdiv_fit {x y : Int} {m : Nat} (hx : FitD x m) : FitD (x.tdiv y) m := by
  unfold FitD
  rw [Int.natAbs_tdiv]
  exact Nat.lt_of_le_of_lt (Nat.div_le_self _ _) hx
theorem tmod_fit {x y : Int} {m : Nat} (hx : FitD x m) : FitD (x.tmod y) m := by
  unfold FitD
  rw [Int.natAbs_tmod]
  exact Nat.lt_of_le_of_lt (Nat.mod_le _ _) hx

theorem fit_smallF {a : Int} {m : Nat} (h : a.natAbs ≤ 1) (hm : 0 < m) : FitD a m := by
  unfold FitD
  have : BD ^ 1 ≤ BD ^ m := Nat.pow_le_pow_right BD_pos hm
  rw [Nat.pow_one] at this
  exact Nat.lt_of_lt_of_le (show a.natAbs < BD by unfold BD; omega) this
theorem agg_inj {b b' : Bool} {A A' : Option Addr} {n n' c c' : Nat} (h : Value.agg #[.bool b, .slice A n c] = .agg #[.bool b', .slice A' n' c']) : b = b' ∧ A = A' ∧ n = n' ∧ c = c' := by
  injection h with h
  have e1 := congrArg (fun a : Array Value => a[0]?) h
  have e2 := congrArg (fun a : Array Value => a[1]?) h
  simp at e1 e2
  exact ⟨e1, e2.1, e2.2.1, e2.2.2⟩
theorem ref_put {w w2 : World} {r : Nat} {s : Bool} {A : Option Addr} {n c : Nat} {z : Int} (hk : Res w2 r) (h : RefAt w2 (.agg #[.bool s, .slice A n c]) z) (hb : Below w.heap.size w w2) (hr : w.heap.size ≤ r) :
    IsRef w ((w2.setCell ⟨r, 0, none⟩ (.bool s)).setCell ⟨r, 1, none⟩ (.slice A n c)) z (.returned (.agg #[.bool s, .slice A n c])) := by
  obtain ⟨b', A', c', zs, he, hs, hl⟩ := h
  obtain ⟨rfl, rfl, rfl, rfl⟩ := agg_inj he
  exact ref_stored hk hs hl hb hr
theorem refE_put {w w2 : World} {r : Nat} {s : Bool} {A : Option Addr} {n c : Nat} {z k : Int} (hk : Res w2 r) (h : RefAt w2 (.agg #[.bool s, .slice A n c]) z) (hb : Below w.heap.size w w2) (hr : w.heap.size ≤ r) :
    IsRE w ((w2.setCell ⟨r, 0, none⟩ (.bool s)).setCell ⟨r, 1, none⟩ (.slice A n c)) z k (.returned (.tuple #[.agg #[.bool s, .slice A n c], .int .i64 k])) := by
  obtain ⟨b', A', c', zs, he, hs, hl⟩ := h
  obtain ⟨rfl, rfl, rfl, rfl⟩ := agg_inj he
  exact refE_stored hk hs hl hb hr
/-- The variables of Floor behind the division. -/
structure FloorS (w : World) (rq rr r4 : Nat) (bq : Bool) (Aq : Option Addr) (cq : Nat) (dq : List Nat) (br : Bool) (Ar : Option Addr) (cr : Nat) (dr : List Nat) (q r : Int) (rx ry : Nat) (b1 : Bool) (u1 : Value) (b2 : Bool) (u2 : Value) : Prop where
  hq : Two w rq (.bool bq) (.slice Aq dq.length cq)
  hr : Two w rr (.bool br) (.slice Ar dr.length cr)
  hx : Two w rx (.bool b1) u1
  hy : Two w ry (.bool b2) u2
  h4 : Res w r4
  lq : rq < w.heap.size
  lr : rr < w.heap.size
  lx : rx < w.heap.size
  ly : ry < w.heap.size
  l4 : r4 < w.heap.size
  aq : RefAt w (.agg #[.bool bq, .slice Aq dq.length cq]) q
  ar : RefAt w (.agg #[.bool br, .slice Ar dr.length cr]) r
theorem FloorS.step {W0 W w1 : World} {rq rr r4 : Nat} {bq : Bool} {Aq : Option Addr} {cq : Nat} {dq : List Nat} {br : Bool} {Ar : Option Addr} {cr : Nat} {dr : List Nat} {q r : Int} {rx ry : Nat} {b1 : Bool} {u1 : Value} {b2 : Bool} {u2 : Value}
    (t : FloorS W0 rq rr r4 bq Aq cq dq br Ar cr dr q r rx ry b1 u1 b2 u2) (hb : Below W.heap.size W w1) (hh : W.heap = W0.heap) : FloorS w1 rq rr r4 bq Aq cq dq br Ar cr dr q r rx ry b1 u1 b2 u2 := by
  have hs : W0.heap.size ≤ w1.heap.size := by rw [← hh]; exact hb.size
  exact ⟨t.hq.step hb hh t.lq, t.hr.step hb hh t.lr, t.hx.step hb hh t.lx, t.hy.step hb hh t.ly, t.h4.step hb hh t.l4, Nat.lt_of_lt_of_le t.lq hs, Nat.lt_of_lt_of_le t.lr hs, Nat.lt_of_lt_of_le t.lx hs, Nat.lt_of_lt_of_le t.ly hs, Nat.lt_of_lt_of_le t.l4 hs, t.aq.step hb hh, t.ar.step hb hh⟩

set_option maxRecDepth 100000 in
set_option maxHeartbeats 8000000 in
theorem RFloor_some (v1 v2 : Value) (x y : Int) (m : Nat) (w : World) (h1 : RefAt w v1 x) (h2 : RefAt w v2 y) (hm : m ≤ 90000) (hm0 : 0 < m) (hx : FitD x m) (hy : FitD y m) (h0 : 0 < y) :
    Calls Try.prog 106 #[v1, v2] w fun e w' => IsRef w w' (x / y) e := by
  obtain ⟨b1, A1, c1, zs1, rfl, hs1, hd1⟩ := h1
  obtain ⟨b2, A2, c2, zs2, rfl, hs2, hd2⟩ := h2
  obtain rfl : b2 = false := by unfold SignOf at hs2; rw [hs2]; simp; omega
  have hbb := begun2_below w (.bool b1) (.slice A1 zs1.length c1) (.bool false) (.slice A2 zs2.length c2) 31
  have hx0 := begun2_x w (.bool b1) (.slice A1 zs1.length c1) (.bool false) (.slice A2 zs2.length c2) 31
  have hy0 := begun2_y w (.bool b1) (.slice A1 zs1.length c1) (.bool false) (.slice A2 zs2.length c2) 31
  have hr0 := begun2_r w (.bool b1) (.slice A1 zs1.length c1) (.bool false) (.slice A2 zs2.length c2) 31
  have hsz := begun2_size w (.bool b1) (.slice A1 zs1.length c1) (.bool false) (.slice A2 zs2.length c2) 31
  have hdv := rdivide_some (.agg #[.bool b1, .slice A1 zs1.length c1]) (.agg #[.bool false, .slice A2 zs2.length c2]) x y m (begun2 w (.bool b1) (.slice A1 zs1.length c1) (.bool false) (.slice A2 zs2.length c2) 31)
    ⟨b1, A1, c1, zs1, rfl, hs1, hd1.below hbb⟩ ⟨false, A2, c2, zs2, rfl, hs2, hd2.below hbb⟩ (by omega) hx hy (by omega)
  obtain ⟨W, hW⟩ : ∃ W, begun2 w (.bool b1) (.slice A1 zs1.length c1) (.bool false) (.slice A2 zs2.length c2) 31 = W := ⟨_, rfl⟩
  rw [hW] at hbb hx0 hy0 hr0 hsz hdv
  unfold begun2 at hW
  have hfq := tdiv_fit (y := y) hx
  have hfr := tmod_fit (y := y) hx
  have hsame := floor_same (x := x) (y := y)
  have hless := floor_less (x := x) h0
  obtain ⟨q, hq⟩ : ∃ q, x.tdiv y = q := ⟨_, rfl⟩
  obtain ⟨r, hr⟩ : ∃ r, x.tmod y = r := ⟨_, rfl⟩
  rw [hq] at hdv hfq hsame hless
  rw [hr] at hdv hfr hsame hless
  have H := Lib.hid (And.intro hbb (And.intro hx0 (And.intro hy0 (And.intro hr0 (And.intro hsz (And.intro hdv (And.intro hfq (And.intro hfr (And.intro hsame (And.intro hless hs1))))))))))
  have HW := Lib.hid hW
  obtain ⟨px0, px1⟩ := id hx0
  obtain ⟨py0, py1⟩ := id hy0
  clear hbb hx0 hy0 hr0 hsz hdv hfq hfr hsame hless hs1 hs2 hd1 hd2 hx hy hq hr hW h0
  go_enter Try.func106, Try.ntmps106
  go_upto_region 1 with fail
  rw [HW.out]
  go_wp2_with fail
  refine H.out.2.2.2.2.2.1.mono ?_
  rintro e w1 ⟨vq, vr, rfl, ⟨bq, Aq, cq, dq, rfl, gq, lq⟩, ⟨br, Ar, cr, dr, rfl, gr, lr⟩, hb1⟩
  have j1 : w.heap.size + 3 ≤ w1.heap.size := Nat.le_trans (Nat.le_of_eq H.out.2.2.2.2.1.symm) hb1.size
  have hba : Below w1.heap.size w1 ((w1.alloc (.cells #[.bool bq, .slice Aq dq.length cq] 31)).alloc (.cells #[.bool br, .slice Ar dr.length cr] 31)) := ((Below.refl _ _).alloc (Nat.le_refl _) _).alloc (by simp) _
  have kq := (Two.new w1 (.bool bq) (.slice Aq dq.length cq) 31).alloc (by simp) (.cells #[.bool br, .slice Ar dr.length cr] 31)
  have kr := Two.new (w1.alloc (.cells #[.bool bq, .slice Aq dq.length cq] 31)) (.bool br) (.slice Ar dr.length cr) 31
  rw [size_alloc] at kr
  have hsz2 : ((w1.alloc (.cells #[.bool bq, .slice Aq dq.length cq] 31)).alloc (.cells #[.bool br, .slice Ar dr.length cr] 31)).heap.size = w1.heap.size + 2 := by simp
  have hS : FloorS ((w1.alloc (.cells #[.bool bq, .slice Aq dq.length cq] 31)).alloc (.cells #[.bool br, .slice Ar dr.length cr] 31)) w1.heap.size (w1.heap.size + 1) (w.heap.size + 2) bq Aq cq dq br Ar cr dr q r w.heap.size (w.heap.size + 1) b1 (.slice A1 zs1.length c1) false (.slice A2 zs2.length c2) :=
    ⟨kq, kr, (H.out.2.1.step hb1 rfl (by have := H.out.2.2.2.2.1; omega)).step hba rfl (by omega), (H.out.2.2.1.step hb1 rfl (by have := H.out.2.2.2.2.1; omega)).step hba rfl (by omega), (H.out.2.2.2.1.step hb1 rfl (by have := H.out.2.2.2.2.1; omega)).step hba rfl (by omega),
      by omega, by omega, by omega, by omega, by omega, ⟨bq, Aq, cq, dq, rfl, gq, lq.below hba⟩, ⟨br, Ar, cr, dr, rfl, gr, lr.below hba⟩⟩
  have hbl := below_then (below_then H.out.1 hb1) hba
  obtain ⟨W2, hW2⟩ : ∃ X : World, (w1.alloc (.cells #[.bool bq, .slice Aq dq.length cq] 31)).alloc (.cells #[.bool br, .slice Ar dr.length cr] 31) = X := ⟨_, rfl⟩
  obtain ⟨rr, hrr⟩ : ∃ n, w1.heap.size + 1 = n := ⟨_, rfl⟩
  obtain ⟨rq, hrq⟩ : ∃ n, w1.heap.size = n := ⟨_, rfl⟩
  rw [hW2, hrr, hrq] at hS
  rw [hW2] at hbl
  have HS := Lib.hid (And.intro hS hbl)
  have jq : w.heap.size + 3 ≤ rq := by omega
  have HR := Lib.hid (And.intro hW2 (And.intro hrr hrq))
  clear kq kr hsz2 hS hbl hba hb1 gq lq gr lr px0 px1 py0 py1 hW2 hrr hrq
  go_upto_region 2 with fail
  rw [HR.out.1, HR.out.2.1, HR.out.2.2]
  clear HR
  obtain ⟨sg, hsg⟩ : ∃ s, r.sign = s := ⟨_, rfl⟩
  have hsc := rsign_is _ r sg m W2 HS.out.1.ar (by omega) H.out.2.2.2.2.2.2.2.1 hsg
  have HSC := Lib.hid hsc
  obtain ⟨px0, px1⟩ := id HS.out.1.hx
  obtain ⟨py0, py1⟩ := id HS.out.1.hy
  obtain ⟨pr0, pr1⟩ := id HS.out.1.hr
  clear hsc
  by_cases hz : sg = 0
  · subst hz
    have hr0 : r = 0 := Int.sign_eq_zero_iff_zero.1 hsg
    have HZ := Lib.hid (H.out.2.2.2.2.2.2.2.2.1 (.inl hr0))
    clear hsg hr0
    go_wp2_with fail
    refine HSC.out.mono ?_
    rintro e w3 ⟨rfl, hb3⟩
    have hS3 := HS.out.1.step hb3 rfl
    have HS3 := Lib.hid (And.intro hS3 (below_then HS.out.2 hb3))
    clear px0 px1 py0 py1 pr0 pr1 hS3 hb3
    obtain ⟨pq0, pq1⟩ := id HS3.out.1.hq
    obtain ⟨⟨p40, p41⟩, f40, f41⟩ := id HS3.out.1.h4
    go_wp2
    obtain ⟨s0, s1⟩ := HS3.out.1.h4.1.stored (.bool bq) (.slice Aq dq.length cq)
    refine bodyPost_ret (v := .agg #[.bool bq, .slice Aq dq.length cq]) (by simp [results, Try.results106, go_sem, s0, s1]) rfl ?_
    rw [← HZ.out]
    exact ref_put HS3.out.1.h4 HS3.out.1.aq HS3.out.2 (by omega)
  · have hzb : (sg == 0) = false := by rw [beq_eq_false_iff_ne]; exact hz
    have hzc : (sg != 0) = true := by rw [bne, hzb]; rfl
    have hrn : r ≠ 0 := fun e => hz (by rw [← hsg, e]; rfl)
    cases b1 with
    | false =>
      have HZ := Lib.hid (H.out.2.2.2.2.2.2.2.2.1 (.inr (by have := H.out.2.2.2.2.2.2.2.2.2.2; unfold SignOf at this; have := of_decide_eq_false this.symm; omega)))
      clear hsg hrn
      go_wp2_with fail
      refine HSC.out.mono ?_
      rintro e w3 ⟨rfl, hb3⟩
      have hS3 := HS.out.1.step hb3 rfl
      have HS3 := Lib.hid (And.intro hS3 (below_then HS.out.2 hb3))
      clear px0 px1 py0 py1 pr0 pr1 hS3 hb3
      obtain ⟨px0, px1⟩ := id HS3.out.1.hx
      obtain ⟨py0, py1⟩ := id HS3.out.1.hy
      obtain ⟨pq0, pq1⟩ := id HS3.out.1.hq
      obtain ⟨⟨p40, p41⟩, f40, f41⟩ := id HS3.out.1.h4
      go_wp2
      obtain ⟨s0, s1⟩ := HS3.out.1.h4.1.stored (.bool bq) (.slice Aq dq.length cq)
      refine bodyPost_ret (v := .agg #[.bool bq, .slice Aq dq.length cq]) (by simp [results, Try.results106, go_sem, s0, s1]) rfl ?_
      rw [← HZ.out]
      exact ref_put HS3.out.1.h4 HS3.out.1.aq HS3.out.2 (by omega)
    | true =>
      have HZ := Lib.hid (H.out.2.2.2.2.2.2.2.2.2.1 hrn (by have := H.out.2.2.2.2.2.2.2.2.2.2; unfold SignOf at this; exact of_decide_eq_true this.symm))
      clear hsg hrn
      go_wp2_with fail
      refine HSC.out.mono ?_
      rintro e w3 ⟨rfl, hb3⟩
      have hS3 := HS.out.1.step hb3 rfl
      have HS3 := Lib.hid (And.intro hS3 (below_then HS.out.2 hb3))
      clear px0 px1 py0 py1 pr0 pr1 hS3 hb3
      obtain ⟨px0, px1⟩ := id HS3.out.1.hx
      obtain ⟨py0, py1⟩ := id HS3.out.1.hy
      obtain ⟨pq0, pq1⟩ := id HS3.out.1.hq
      go_upto_region 3 with fail
      go_region_held3 (fun w' => w'.cell? ⟨rq, 0, none⟩ = some (.bool bq) ∧ w'.cell? ⟨rq, 1, none⟩ = some (.slice Aq dq.length cq))
        (((try dsimp only); (repeat' apply And.intro) <;> (first | (with_reducible assumption) | go_keep)))
        ((first
          | (go_at_call 18; refine (RNew_pos 1 _ (by decide)).mono ?_; rintro e w4 ⟨v4, rfl, hv4, hb4⟩; have hS4 := HS3.out.1.step hb4 rfl; have hl4 := begun_then HS3.out.2 hb4 rfl rfl rfl rfl; obtain ⟨qa0, qa1⟩ := id hS4.hq)
          | (go_at_call 41; refine (RSub_any _ _ q 1 m _ (by exact hS4.aq) (by exact hv4) (by omega) H.out.2.2.2.2.2.2.1 (by exact fit_smallF (by decide) hm0)).mono ?_; rintro e w5 ⟨v5, rfl, hv5, hb5⟩; have hS5 := hS4.step hb5 rfl; have hl5 := below_then hl4 hb5; obtain ⟨qb0, qb1⟩ := id hS5.hq; obtain ⟨⟨p40, p41⟩, f40, f41⟩ := id hS5.h4; obtain ⟨b6, A6, c6, d6, rfl, g6, l6⟩ := id hv5; have m1 := hS5.hq.far (r := w.heap.size + 1 + 1) (by omega) (.bool b6) (.slice A6 d6.length c6); obtain ⟨m1a, m1b⟩ := id m1)))
      go_wp2
      obtain ⟨s0, s1⟩ := hS5.h4.1.stored (.bool b6) (.slice A6 d6.length c6)
      refine bodyPost_ret (v := .agg #[.bool b6, .slice A6 d6.length c6]) (by simp [results, Try.results106, go_sem, s0, s1]) rfl ?_
      rw [← HZ.out]
      exact ref_stored hS5.h4 g6 l6 hl5 (by omega)
end Go.Proofs.Ytagocllbfbbneaa.RK
