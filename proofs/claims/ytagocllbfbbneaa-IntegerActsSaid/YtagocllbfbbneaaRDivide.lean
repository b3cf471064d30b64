/- What Divide of the reference does. -/
import Derived.Test.YtagocllbfbbneaaRDiv
import Derived.Test.YtagocllbfbbneaaRKit
namespace Go.Proofs.Ytagocllbfbbneaa
open Go.RowKit
set_option linter.unusedSimpArgs false

theorem rsmall_len {w : World} {A : Option Addr} {c n m : Nat} {zs : List Nat} (h : Digs w A c zs n) (xs : List Nat) (ox : Lm.Ok BD xs) (hn : n ≤ Lm.val BD xs) (hl : xs.length ≤ m) : zs.length ≤ m := by
  have h2 : n < BD ^ xs.length := Nat.lt_of_le_of_lt hn (Lm.val_lt ox)
  exact Nat.le_trans (h.len h2) hl
/-- A quotient and a rest of two integers, without an error. -/
def IsQuoRemR (w w' : World) (x y : Int) (e : Ending) : Prop :=
  ∃ v1 v2, e = .returned (.tuple #[v1, v2, .int .i64 0]) ∧ RefAt w' v1 (x.tdiv y) ∧ RefAt w' v2 (x.tmod y) ∧ Below w.heap.size w w'
def IsDivsR (w w' : World) (x y : Nat) (e : Ending) : Prop := ∃ A1 c1 d1 A2 c2 d2, e = .returned (.tuple #[.slice A1 (List.length d1) c1, .slice A2 (List.length d2) c2]) ∧ Digs w' A1 c1 d1 (x / y) ∧ Digs w' A2 c2 d2 (x % y) ∧ Below w.heap.size w w'
theorem divided_all (A : Option Addr) (c : Nat) (xs : List Nat) (A' : Option Addr) (c' : Nat) (ys : List Nat) (x y : Nat) (w : World) (hx : Digs w A c xs x) (hy : Digs w A' c' ys y) (hl : xs.length ≤ 100000) (hl2 : ys.length ≤ 100000) (h0 : 0 < y) :
    Calls Try.prog 83 #[.slice A xs.length c, .slice A' ys.length c'] w fun e w' => IsDivsR w w' x y e := by
  have h := divided_any A c xs A' c' ys w hx.2.1 hy.2.1 hx.2.2.1 hy.2.2.1 (by rw [hy.2.2.2.2]; exact h0) hl hl2
  rw [hx.2.2.2.2, hy.2.2.2.2] at h
  exact h.mono fun e w' ⟨A1, c1, d1, A2, c2, d2, he, h1, h2, _, hb⟩ => ⟨A1, c1, d1, A2, c2, d2, he, h1, h2, hb⟩

set_option maxRecDepth 100000 in
set_option maxHeartbeats 1000000 in
theorem rdivide_stt (A1 : Option Addr) (c1 : Nat) (zs1 : List Nat) (A2 : Option Addr) (c2 : Nat) (zs2 : List Nat) (x y : Int) (w : World) (hs1 : SignOf true x) (hs2 : SignOf true y)
    (h1 : Digs w A1 c1 zs1 x.natAbs) (h2 : Digs w A2 c2 zs2 y.natAbs) (hl1 : zs1.length ≤ 100000) (hl2 : zs2.length ≤ 100000) (hy0 : y ≠ 0) :
    Calls Try.prog 31 #[.agg #[.bool true, .slice A1 zs1.length c1], .agg #[.bool true, .slice A2 zs2.length c2]] w fun e w' => IsQuoRemR w w' x y e := by
  have hd0 : 0 < y.natAbs := by omega
  have hbb := (begun2_below w (.bool true) (.slice A1 zs1.length c1) (.bool true) (.slice A2 zs2.length c2) 31).alloc (begun2_below w (.bool true) (.slice A1 zs1.length c1) (.bool true) (.slice A2 zs2.length c2) 31).size (.cells #[.bool false, .slice none 0 0] 31)
  have hsz0 := begun2_size w (.bool true) (.slice A1 zs1.length c1) (.bool true) (.slice A2 zs2.length c2) 31
  have hx0 := (begun2_x w (.bool true) (.slice A1 zs1.length c1) (.bool true) (.slice A2 zs2.length c2) 31).alloc (by omega) (.cells #[.bool false, .slice none 0 0] 31)
  have hy0 := (begun2_y w (.bool true) (.slice A1 zs1.length c1) (.bool true) (.slice A2 zs2.length c2) 31).alloc (by omega) (.cells #[.bool false, .slice none 0 0] 31)
  have hr0 := (begun2_r w (.bool true) (.slice A1 zs1.length c1) (.bool true) (.slice A2 zs2.length c2) 31).step ((Below.refl _ _).alloc (Nat.le_refl _) (.cells #[.bool false, .slice none 0 0] 31)) rfl (by omega)
  have hq0 := Res.new (begun2 w (.bool true) (.slice A1 zs1.length c1) (.bool true) (.slice A2 zs2.length c2) 31) 31
  rw [hsz0] at hq0
  have hsz : (begun4 w (.bool true) (.slice A1 zs1.length c1) (.bool true) (.slice A2 zs2.length c2) 31).heap.size = w.heap.size + 4 := by unfold begun4; rw [size_alloc, hsz0]
  have hi2 : RefAt (begun4 w (.bool true) (.slice A1 zs1.length c1) (.bool true) (.slice A2 zs2.length c2) 31) (.agg #[.bool true, .slice A2 zs2.length c2]) y := ⟨true, A2, c2, zs2, rfl, hs2, h2.below hbb⟩
  have hl2' := h2.below hbb
  have hl1' := h1.below hbb
  have hyb : y.natAbs < BD ^ zs2.length := by rw [← h2.2.2.2.2]; exact Lm.val_lt h2.2.2.1
  have hsg := RSign_any _ y zs2.length _ hi2 (by omega) hyb
  have hyn : (y.sign == 0) = false := by rw [beq_eq_false_iff_ne]; intro h; have := Int.sign_eq_zero_iff_zero.1 h; omega
  have H := Lib.hid (And.intro hbb (And.intro hx0 (And.intro hy0 (And.intro hr0 (And.intro hq0 (And.intro hsz (And.intro hsg (And.intro hl1' (And.intro hl2' hd0)))))))))
  have tok1 : True := trivial
  clear hbb hsz0 hx0 hy0 hr0 hq0 hsz hi2 hl2' hl1' hyb hsg hd0
  go_enter Try.func31, Try.ntmps31
  go_wp2_with fail
  refine H.out.2.2.2.2.2.2.1.mono ?_
  rintro e w1 ⟨rfl, hb1⟩
  have j1 : w.heap.size + 4 ≤ w1.heap.size := Nat.le_trans (Nat.le_of_eq H.out.2.2.2.2.2.1.symm) hb1.size
  have k1x := H.out.2.1.step hb1 rfl (Nat.lt_of_lt_of_eq (m := w.heap.size + 4) (by omega) H.out.2.2.2.2.2.1.symm)
  have k1y := H.out.2.2.1.step hb1 rfl (Nat.lt_of_lt_of_eq (m := w.heap.size + 4) (by omega) H.out.2.2.2.2.2.1.symm)
  have k1r := H.out.2.2.2.1.step hb1 rfl (Nat.lt_of_lt_of_eq (m := w.heap.size + 4) (by omega) H.out.2.2.2.2.2.1.symm)
  have k1q := H.out.2.2.2.2.1.step hb1 rfl (Nat.lt_of_lt_of_eq (m := w.heap.size + 4) (by omega) H.out.2.2.2.2.2.1.symm)
  obtain ⟨px0, px1⟩ := id k1x
  obtain ⟨py0, py1⟩ := id k1y
  have hdv := divided_all A1 c1 zs1 A2 c2 zs2 x.natAbs y.natAbs w1 (H.out.2.2.2.2.2.2.2.1.step hb1 rfl) (H.out.2.2.2.2.2.2.2.2.1.step hb1 rfl) hl1 hl2 H.out.2.2.2.2.2.2.2.2.2
  have HD := Lib.hid hdv
  clear hdv
  go_wp2_with fail
  refine HD.out.mono ?_
  rintro e w2 ⟨Aq, cq, zq, Ar, cr, zr, rfl, hq, hr, hb2⟩
  have j2 : w.heap.size + 4 ≤ w2.heap.size := Nat.le_trans j1 hb2.size
  have k2x := k1x.step hb2 rfl (by omega)
  have k2y := k1y.step hb2 rfl (by omega)
  have k2r := k1r.step hb2 rfl (by omega)
  have k2q := k1q.step hb2 rfl (by omega)
  have hlq : zq.length ≤ 1000000 := by have := rsmall_len (m := 100000) hq zs1 h1.2.2.1 (by rw [h1.2.2.2.2]; exact Nat.div_le_self _ _) hl1; omega
  have hlr : zr.length ≤ 1000000 := by have := rsmall_len (m := 100000) hr zs1 h1.2.2.1 (by rw [h1.2.2.2.2]; exact Nat.mod_le _ _) hl1; omega
  clear px0 px1 py0 py1
  obtain ⟨px0, px1⟩ := id k2x
  obtain ⟨py0, py1⟩ := id k2y
  go_wp2_with fail
  go_region_held3 (fun w' => w'.cell? ⟨w.heap.size, 0, none⟩ = some (.bool true) ∧ w'.cell? ⟨w.heap.size + 1, 0, none⟩ = some (.bool true))
    (((try dsimp only); (repeat' apply And.intro) <;> (first | (with_reducible assumption) | go_keep)))
    ((first | (go_at_call 72; have _t := tok1; refine (made_to false Aq cq zq (x.tdiv y) _ (by exact hq.2.1) hq.2.2.1 hlq hq.1 (by rw [hq.2.2.2.2]; exact div_parts hs1 hs2 rfl)).mono ?_; rintro e w3 ⟨v3, rfl, ⟨b3, A3, c3, zs3, rfl, hsg3, hl3⟩, hb3⟩; clear tok1; have j3 : w.heap.size + 4 ≤ w3.heap.size := Nat.le_trans j2 hb3.size; have k3x := k2x.step hb3 rfl (by omega); have k3y := k2y.step hb3 rfl (by omega); have k3r := k2r.step hb3 rfl (by omega); have k3q := k2q.step hb3 rfl (by omega); have hr3 := hr.step hb3 rfl; obtain ⟨qx0, qx1⟩ := id k3x; obtain ⟨qy0, qy1⟩ := id k3y) | (go_at_call 72; refine (made_to true Ar cr zr (x.tmod y) _ (by exact hr3.2.1) hr3.2.2.1 hlr hr3.1 (by rw [hr3.2.2.2.2]; exact mod_parts hs1)).mono ?_; rintro e w4 ⟨v4, rfl, ⟨b4, A4, c4, zs4, rfl, hsg4, hl4⟩, hb4⟩; have k4x := k3x.step hb4 rfl (by omega); have k4y := k3y.step hb4 rfl (by omega); have k4r := k3r.step hb4 rfl (by omega); have k4q := k3q.step hb4 rfl (by omega); have hl3' := hl3.step hb4 rfl; obtain ⟨sx0, sx1⟩ := id k4x; obtain ⟨sy0, sy1⟩ := id k4y; obtain ⟨⟨hr0, hr1⟩, hf0, hf1⟩ := id k4r; obtain ⟨⟨hq0, hq1⟩, hg0, hg1⟩ := id k4q; have m1 := k4x.far (r := w.heap.size + 2) (by omega) (.bool b3) (.slice A3 zs3.length c3); have m2 := k4y.far (r := w.heap.size + 2) (by omega) (.bool b3) (.slice A3 zs3.length c3); have m3 := m1.far (r := w.heap.size + 3) (by omega) (.bool b4) (.slice A4 zs4.length c4); have m4 := m2.far (r := w.heap.size + 3) (by omega) (.bool b4) (.slice A4 zs4.length c4); obtain ⟨m1a, m1b⟩ := id m1; obtain ⟨m2a, m2b⟩ := id m2; obtain ⟨m3a, m3b⟩ := id m3; obtain ⟨m4a, m4b⟩ := id m4)))
  go_wp2
  have e1 := (k4r.1.stored (.bool b3) (.slice A3 zs3.length c3)).far (r := w.heap.size + 3) (by omega) (.bool b4) (.slice A4 zs4.length c4)
  have e0 := k4q.1.far (r := w.heap.size + 2) (by omega) (.bool b3) (.slice A3 zs3.length c3)
  have e2 := e0.stored (.bool b4) (.slice A4 zs4.length c4)
  obtain ⟨e1a, e1b⟩ := id e1
  obtain ⟨e2a, e2b⟩ := id e2
  have hn3 := (hl3'.2.1.res k4r.1 (.bool b3) (.slice A3 zs3.length c3)).res e0 (.bool b4) (.slice A4 zs4.length c4)
  have hn4 := (hl4.2.1.res k4r.1 (.bool b3) (.slice A3 zs3.length c3)).res e0 (.bool b4) (.slice A4 zs4.length c4)
  have hbe := below_then (below_then (begun_then (begun_then H.out.1 hb1 rfl rfl rfl rfl) hb2 rfl rfl rfl rfl) ⟨hb3.os, hb3.tape, hb3.output, hb3.size, hb3.block⟩) hb4
  refine bodyPost_ret (v := .tuple #[.agg #[.bool b3, .slice A3 zs3.length c3], .agg #[.bool b4, .slice A4 zs4.length c4], .int .i64 0]) (by simp [results, Try.results31, go_sem, e1a, e1b, e2a, e2b]) rfl ?_
  exact ⟨_, _, rfl, ⟨b3, A3, c3, zs3, rfl, hsg3, hl3'.1, hn3, hl3'.2.2⟩, ⟨b4, A4, c4, zs4, rfl, hsg4, hl4.1, hn4, hl4.2.2⟩,
    (((hbe.setCell (p := ⟨w.heap.size + 2, 0, none⟩) (by simp) _).setCell (p := ⟨w.heap.size + 2, 1, none⟩) (by simp) _).setCell (p := ⟨w.heap.size + 3, 0, none⟩) (by simp) _).setCell (p := ⟨w.heap.size + 3, 1, none⟩) (by simp) _⟩

set_option maxRecDepth 100000 in
set_option maxHeartbeats 1000000 in
theorem rdivide_stf (A1 : Option Addr) (c1 : Nat) (zs1 : List Nat) (A2 : Option Addr) (c2 : Nat) (zs2 : List Nat) (x y : Int) (w : World) (hs1 : SignOf true x) (hs2 : SignOf false y)
    (h1 : Digs w A1 c1 zs1 x.natAbs) (h2 : Digs w A2 c2 zs2 y.natAbs) (hl1 : zs1.length ≤ 100000) (hl2 : zs2.length ≤ 100000) (hy0 : y ≠ 0) :
    Calls Try.prog 31 #[.agg #[.bool true, .slice A1 zs1.length c1], .agg #[.bool false, .slice A2 zs2.length c2]] w fun e w' => IsQuoRemR w w' x y e := by
  have hd0 : 0 < y.natAbs := by omega
  have hbb := (begun2_below w (.bool true) (.slice A1 zs1.length c1) (.bool false) (.slice A2 zs2.length c2) 31).alloc (begun2_below w (.bool true) (.slice A1 zs1.length c1) (.bool false) (.slice A2 zs2.length c2) 31).size (.cells #[.bool false, .slice none 0 0] 31)
  have hsz0 := begun2_size w (.bool true) (.slice A1 zs1.length c1) (.bool false) (.slice A2 zs2.length c2) 31
  have hx0 := (begun2_x w (.bool true) (.slice A1 zs1.length c1) (.bool false) (.slice A2 zs2.length c2) 31).alloc (by omega) (.cells #[.bool false, .slice none 0 0] 31)
  have hy0 := (begun2_y w (.bool true) (.slice A1 zs1.length c1) (.bool false) (.slice A2 zs2.length c2) 31).alloc (by omega) (.cells #[.bool false, .slice none 0 0] 31)
  have hr0 := (begun2_r w (.bool true) (.slice A1 zs1.length c1) (.bool false) (.slice A2 zs2.length c2) 31).step ((Below.refl _ _).alloc (Nat.le_refl _) (.cells #[.bool false, .slice none 0 0] 31)) rfl (by omega)
  have hq0 := Res.new (begun2 w (.bool true) (.slice A1 zs1.length c1) (.bool false) (.slice A2 zs2.length c2) 31) 31
  rw [hsz0] at hq0
  have hsz : (begun4 w (.bool true) (.slice A1 zs1.length c1) (.bool false) (.slice A2 zs2.length c2) 31).heap.size = w.heap.size + 4 := by unfold begun4; rw [size_alloc, hsz0]
  have hi2 : RefAt (begun4 w (.bool true) (.slice A1 zs1.length c1) (.bool false) (.slice A2 zs2.length c2) 31) (.agg #[.bool false, .slice A2 zs2.length c2]) y := ⟨false, A2, c2, zs2, rfl, hs2, h2.below hbb⟩
  have hl2' := h2.below hbb
  have hl1' := h1.below hbb
  have hyb : y.natAbs < BD ^ zs2.length := by rw [← h2.2.2.2.2]; exact Lm.val_lt h2.2.2.1
  have hsg := RSign_any _ y zs2.length _ hi2 (by omega) hyb
  have hyn : (y.sign == 0) = false := by rw [beq_eq_false_iff_ne]; intro h; have := Int.sign_eq_zero_iff_zero.1 h; omega
  have H := Lib.hid (And.intro hbb (And.intro hx0 (And.intro hy0 (And.intro hr0 (And.intro hq0 (And.intro hsz (And.intro hsg (And.intro hl1' (And.intro hl2' hd0)))))))))
  have tok1 : True := trivial
  clear hbb hsz0 hx0 hy0 hr0 hq0 hsz hi2 hl2' hl1' hyb hsg hd0
  go_enter Try.func31, Try.ntmps31
  go_wp2_with fail
  refine H.out.2.2.2.2.2.2.1.mono ?_
  rintro e w1 ⟨rfl, hb1⟩
  have j1 : w.heap.size + 4 ≤ w1.heap.size := Nat.le_trans (Nat.le_of_eq H.out.2.2.2.2.2.1.symm) hb1.size
  have k1x := H.out.2.1.step hb1 rfl (Nat.lt_of_lt_of_eq (m := w.heap.size + 4) (by omega) H.out.2.2.2.2.2.1.symm)
  have k1y := H.out.2.2.1.step hb1 rfl (Nat.lt_of_lt_of_eq (m := w.heap.size + 4) (by omega) H.out.2.2.2.2.2.1.symm)
  have k1r := H.out.2.2.2.1.step hb1 rfl (Nat.lt_of_lt_of_eq (m := w.heap.size + 4) (by omega) H.out.2.2.2.2.2.1.symm)
  have k1q := H.out.2.2.2.2.1.step hb1 rfl (Nat.lt_of_lt_of_eq (m := w.heap.size + 4) (by omega) H.out.2.2.2.2.2.1.symm)
  obtain ⟨px0, px1⟩ := id k1x
  obtain ⟨py0, py1⟩ := id k1y
  have hdv := divided_all A1 c1 zs1 A2 c2 zs2 x.natAbs y.natAbs w1 (H.out.2.2.2.2.2.2.2.1.step hb1 rfl) (H.out.2.2.2.2.2.2.2.2.1.step hb1 rfl) hl1 hl2 H.out.2.2.2.2.2.2.2.2.2
  have HD := Lib.hid hdv
  clear hdv
  go_wp2_with fail
  refine HD.out.mono ?_
  rintro e w2 ⟨Aq, cq, zq, Ar, cr, zr, rfl, hq, hr, hb2⟩
  have j2 : w.heap.size + 4 ≤ w2.heap.size := Nat.le_trans j1 hb2.size
  have k2x := k1x.step hb2 rfl (by omega)
  have k2y := k1y.step hb2 rfl (by omega)
  have k2r := k1r.step hb2 rfl (by omega)
  have k2q := k1q.step hb2 rfl (by omega)
  have hlq : zq.length ≤ 1000000 := by have := rsmall_len (m := 100000) hq zs1 h1.2.2.1 (by rw [h1.2.2.2.2]; exact Nat.div_le_self _ _) hl1; omega
  have hlr : zr.length ≤ 1000000 := by have := rsmall_len (m := 100000) hr zs1 h1.2.2.1 (by rw [h1.2.2.2.2]; exact Nat.mod_le _ _) hl1; omega
  clear px0 px1 py0 py1
  obtain ⟨px0, px1⟩ := id k2x
  obtain ⟨py0, py1⟩ := id k2y
  go_wp2_with fail
  go_region_held3 (fun w' => w'.cell? ⟨w.heap.size, 0, none⟩ = some (.bool true) ∧ w'.cell? ⟨w.heap.size + 1, 0, none⟩ = some (.bool false))
    (((try dsimp only); (repeat' apply And.intro) <;> (first | (with_reducible assumption) | go_keep)))
    ((first | (go_at_call 72; have _t := tok1; refine (made_to true Aq cq zq (x.tdiv y) _ (by exact hq.2.1) hq.2.2.1 hlq hq.1 (by rw [hq.2.2.2.2]; exact div_parts hs1 hs2 rfl)).mono ?_; rintro e w3 ⟨v3, rfl, ⟨b3, A3, c3, zs3, rfl, hsg3, hl3⟩, hb3⟩; clear tok1; have j3 : w.heap.size + 4 ≤ w3.heap.size := Nat.le_trans j2 hb3.size; have k3x := k2x.step hb3 rfl (by omega); have k3y := k2y.step hb3 rfl (by omega); have k3r := k2r.step hb3 rfl (by omega); have k3q := k2q.step hb3 rfl (by omega); have hr3 := hr.step hb3 rfl; obtain ⟨qx0, qx1⟩ := id k3x; obtain ⟨qy0, qy1⟩ := id k3y) | (go_at_call 72; refine (made_to true Ar cr zr (x.tmod y) _ (by exact hr3.2.1) hr3.2.2.1 hlr hr3.1 (by rw [hr3.2.2.2.2]; exact mod_parts hs1)).mono ?_; rintro e w4 ⟨v4, rfl, ⟨b4, A4, c4, zs4, rfl, hsg4, hl4⟩, hb4⟩; have k4x := k3x.step hb4 rfl (by omega); have k4y := k3y.step hb4 rfl (by omega); have k4r := k3r.step hb4 rfl (by omega); have k4q := k3q.step hb4 rfl (by omega); have hl3' := hl3.step hb4 rfl; obtain ⟨sx0, sx1⟩ := id k4x; obtain ⟨sy0, sy1⟩ := id k4y; obtain ⟨⟨hr0, hr1⟩, hf0, hf1⟩ := id k4r; obtain ⟨⟨hq0, hq1⟩, hg0, hg1⟩ := id k4q; have m1 := k4x.far (r := w.heap.size + 2) (by omega) (.bool b3) (.slice A3 zs3.length c3); have m2 := k4y.far (r := w.heap.size + 2) (by omega) (.bool b3) (.slice A3 zs3.length c3); have m3 := m1.far (r := w.heap.size + 3) (by omega) (.bool b4) (.slice A4 zs4.length c4); have m4 := m2.far (r := w.heap.size + 3) (by omega) (.bool b4) (.slice A4 zs4.length c4); obtain ⟨m1a, m1b⟩ := id m1; obtain ⟨m2a, m2b⟩ := id m2; obtain ⟨m3a, m3b⟩ := id m3; obtain ⟨m4a, m4b⟩ := id m4)))
  go_wp2
  have e1 := (k4r.1.stored (.bool b3) (.slice A3 zs3.length c3)).far (r := w.heap.size + 3) (by omega) (.bool b4) (.slice A4 zs4.length c4)
  have e0 := k4q.1.far (r := w.heap.size + 2) (by omega) (.bool b3) (.slice A3 zs3.length c3)
  have e2 := e0.stored (.bool b4) (.slice A4 zs4.length c4)
  obtain ⟨e1a, e1b⟩ := id e1
  obtain ⟨e2a, e2b⟩ := id e2
  have hn3 := (hl3'.2.1.res k4r.1 (.bool b3) (.slice A3 zs3.length c3)).res e0 (.bool b4) (.slice A4 zs4.length c4)
  have hn4 := (hl4.2.1.res k4r.1 (.bool b3) (.slice A3 zs3.length c3)).res e0 (.bool b4) (.slice A4 zs4.length c4)
  have hbe := below_then (below_then (begun_then (begun_then H.out.1 hb1 rfl rfl rfl rfl) hb2 rfl rfl rfl rfl) ⟨hb3.os, hb3.tape, hb3.output, hb3.size, hb3.block⟩) hb4
  refine bodyPost_ret (v := .tuple #[.agg #[.bool b3, .slice A3 zs3.length c3], .agg #[.bool b4, .slice A4 zs4.length c4], .int .i64 0]) (by simp [results, Try.results31, go_sem, e1a, e1b, e2a, e2b]) rfl ?_
  exact ⟨_, _, rfl, ⟨b3, A3, c3, zs3, rfl, hsg3, hl3'.1, hn3, hl3'.2.2⟩, ⟨b4, A4, c4, zs4, rfl, hsg4, hl4.1, hn4, hl4.2.2⟩,
    (((hbe.setCell (p := ⟨w.heap.size + 2, 0, none⟩) (by simp) _).setCell (p := ⟨w.heap.size + 2, 1, none⟩) (by simp) _).setCell (p := ⟨w.heap.size + 3, 0, none⟩) (by simp) _).setCell (p := ⟨w.heap.size + 3, 1, none⟩) (by simp) _⟩

set_option maxRecDepth 100000 in
set_option maxHeartbeats 1000000 in
theorem rdivide_sft (A1 : Option Addr) (c1 : Nat) (zs1 : List Nat) (A2 : Option Addr) (c2 : Nat) (zs2 : List Nat) (x y : Int) (w : World) (hs1 : SignOf false x) (hs2 : SignOf true y)
    (h1 : Digs w A1 c1 zs1 x.natAbs) (h2 : Digs w A2 c2 zs2 y.natAbs) (hl1 : zs1.length ≤ 100000) (hl2 : zs2.length ≤ 100000) (hy0 : y ≠ 0) :
    Calls Try.prog 31 #[.agg #[.bool false, .slice A1 zs1.length c1], .agg #[.bool true, .slice A2 zs2.length c2]] w fun e w' => IsQuoRemR w w' x y e := by
  have hd0 : 0 < y.natAbs := by omega
  have hbb := (begun2_below w (.bool false) (.slice A1 zs1.length c1) (.bool true) (.slice A2 zs2.length c2) 31).alloc (begun2_below w (.bool false) (.slice A1 zs1.length c1) (.bool true) (.slice A2 zs2.length c2) 31).size (.cells #[.bool false, .slice none 0 0] 31)
  have hsz0 := begun2_size w (.bool false) (.slice A1 zs1.length c1) (.bool true) (.slice A2 zs2.length c2) 31
  have hx0 := (begun2_x w (.bool false) (.slice A1 zs1.length c1) (.bool true) (.slice A2 zs2.length c2) 31).alloc (by omega) (.cells #[.bool false, .slice none 0 0] 31)
  have hy0 := (begun2_y w (.bool false) (.slice A1 zs1.length c1) (.bool true) (.slice A2 zs2.length c2) 31).alloc (by omega) (.cells #[.bool false, .slice none 0 0] 31)
  have hr0 := (begun2_r w (.bool false) (.slice A1 zs1.length c1) (.bool true) (.slice A2 zs2.length c2) 31).step ((Below.refl _ _).alloc (Nat.le_refl _) (.cells #[.bool false, .slice none 0 0] 31)) rfl (by omega)
  have hq0 := Res.new (begun2 w (.bool false) (.slice A1 zs1.length c1) (.bool true) (.slice A2 zs2.length c2) 31) 31
  rw [hsz0] at hq0
  have hsz : (begun4 w (.bool false) (.slice A1 zs1.length c1) (.bool true) (.slice A2 zs2.length c2) 31).heap.size = w.heap.size + 4 := by unfold begun4; rw [size_alloc, hsz0]
  have hi2 : RefAt (begun4 w (.bool false) (.slice A1 zs1.length c1) (.bool true) (.slice A2 zs2.length c2) 31) (.agg #[.bool true, .slice A2 zs2.length c2]) y := ⟨true, A2, c2, zs2, rfl, hs2, h2.below hbb⟩
  have hl2' := h2.below hbb
  have hl1' := h1.below hbb
  have hyb : y.natAbs < BD ^ zs2.length := by rw [← h2.2.2.2.2]; exact Lm.val_lt h2.2.2.1
  have hsg := RSign_any _ y zs2.length _ hi2 (by omega) hyb
  have hyn : (y.sign == 0) = false := by rw [beq_eq_false_iff_ne]; intro h; have := Int.sign_eq_zero_iff_zero.1 h; omega
  have H := Lib.hid (And.intro hbb (And.intro hx0 (And.intro hy0 (And.intro hr0 (And.intro hq0 (And.intro hsz (And.intro hsg (And.intro hl1' (And.intro hl2' hd0)))))))))
  have tok1 : True := trivial
  clear hbb hsz0 hx0 hy0 hr0 hq0 hsz hi2 hl2' hl1' hyb hsg hd0
  go_enter Try.func31, Try.ntmps31
  go_wp2_with fail
  refine H.out.2.2.2.2.2.2.1.mono ?_
  rintro e w1 ⟨rfl, hb1⟩
  have j1 : w.heap.size + 4 ≤ w1.heap.size := Nat.le_trans (Nat.le_of_eq H.out.2.2.2.2.2.1.symm) hb1.size
  have k1x := H.out.2.1.step hb1 rfl (Nat.lt_of_lt_of_eq (m := w.heap.size + 4) (by omega) H.out.2.2.2.2.2.1.symm)
  have k1y := H.out.2.2.1.step hb1 rfl (Nat.lt_of_lt_of_eq (m := w.heap.size + 4) (by omega) H.out.2.2.2.2.2.1.symm)
  have k1r := H.out.2.2.2.1.step hb1 rfl (Nat.lt_of_lt_of_eq (m := w.heap.size + 4) (by omega) H.out.2.2.2.2.2.1.symm)
  have k1q := H.out.2.2.2.2.1.step hb1 rfl (Nat.lt_of_lt_of_eq (m := w.heap.size + 4) (by omega) H.out.2.2.2.2.2.1.symm)
  obtain ⟨px0, px1⟩ := id k1x
  obtain ⟨py0, py1⟩ := id k1y
  have hdv := divided_all A1 c1 zs1 A2 c2 zs2 x.natAbs y.natAbs w1 (H.out.2.2.2.2.2.2.2.1.step hb1 rfl) (H.out.2.2.2.2.2.2.2.2.1.step hb1 rfl) hl1 hl2 H.out.2.2.2.2.2.2.2.2.2
  have HD := Lib.hid hdv
  clear hdv
  go_wp2_with fail
  refine HD.out.mono ?_
  rintro e w2 ⟨Aq, cq, zq, Ar, cr, zr, rfl, hq, hr, hb2⟩
  have j2 : w.heap.size + 4 ≤ w2.heap.size := Nat.le_trans j1 hb2.size
  have k2x := k1x.step hb2 rfl (by omega)
  have k2y := k1y.step hb2 rfl (by omega)
  have k2r := k1r.step hb2 rfl (by omega)
  have k2q := k1q.step hb2 rfl (by omega)
  have hlq : zq.length ≤ 1000000 := by have := rsmall_len (m := 100000) hq zs1 h1.2.2.1 (by rw [h1.2.2.2.2]; exact Nat.div_le_self _ _) hl1; omega
  have hlr : zr.length ≤ 1000000 := by have := rsmall_len (m := 100000) hr zs1 h1.2.2.1 (by rw [h1.2.2.2.2]; exact Nat.mod_le _ _) hl1; omega
  clear px0 px1 py0 py1
  obtain ⟨px0, px1⟩ := id k2x
  obtain ⟨py0, py1⟩ := id k2y
  go_wp2_with fail
  go_region_held3 (fun w' => w'.cell? ⟨w.heap.size, 0, none⟩ = some (.bool false) ∧ w'.cell? ⟨w.heap.size + 1, 0, none⟩ = some (.bool true))
    (((try dsimp only); (repeat' apply And.intro) <;> (first | (with_reducible assumption) | go_keep)))
    ((first | (go_at_call 72; have _t := tok1; refine (made_to true Aq cq zq (x.tdiv y) _ (by exact hq.2.1) hq.2.2.1 hlq hq.1 (by rw [hq.2.2.2.2]; exact div_parts hs1 hs2 rfl)).mono ?_; rintro e w3 ⟨v3, rfl, ⟨b3, A3, c3, zs3, rfl, hsg3, hl3⟩, hb3⟩; clear tok1; have j3 : w.heap.size + 4 ≤ w3.heap.size := Nat.le_trans j2 hb3.size; have k3x := k2x.step hb3 rfl (by omega); have k3y := k2y.step hb3 rfl (by omega); have k3r := k2r.step hb3 rfl (by omega); have k3q := k2q.step hb3 rfl (by omega); have hr3 := hr.step hb3 rfl; obtain ⟨qx0, qx1⟩ := id k3x; obtain ⟨qy0, qy1⟩ := id k3y) | (go_at_call 72; refine (made_to false Ar cr zr (x.tmod y) _ (by exact hr3.2.1) hr3.2.2.1 hlr hr3.1 (by rw [hr3.2.2.2.2]; exact mod_parts hs1)).mono ?_; rintro e w4 ⟨v4, rfl, ⟨b4, A4, c4, zs4, rfl, hsg4, hl4⟩, hb4⟩; have k4x := k3x.step hb4 rfl (by omega); have k4y := k3y.step hb4 rfl (by omega); have k4r := k3r.step hb4 rfl (by omega); have k4q := k3q.step hb4 rfl (by omega); have hl3' := hl3.step hb4 rfl; obtain ⟨sx0, sx1⟩ := id k4x; obtain ⟨sy0, sy1⟩ := id k4y; obtain ⟨⟨hr0, hr1⟩, hf0, hf1⟩ := id k4r; obtain ⟨⟨hq0, hq1⟩, hg0, hg1⟩ := id k4q; have m1 := k4x.far (r := w.heap.size + 2) (by omega) (.bool b3) (.slice A3 zs3.length c3); have m2 := k4y.far (r := w.heap.size + 2) (by omega) (.bool b3) (.slice A3 zs3.length c3); have m3 := m1.far (r := w.heap.size + 3) (by omega) (.bool b4) (.slice A4 zs4.length c4); have m4 := m2.far (r := w.heap.size + 3) (by omega) (.bool b4) (.slice A4 zs4.length c4); obtain ⟨m1a, m1b⟩ := id m1; obtain ⟨m2a, m2b⟩ := id m2; obtain ⟨m3a, m3b⟩ := id m3; obtain ⟨m4a, m4b⟩ := id m4)))
  go_wp2
  have e1 := (k4r.1.stored (.bool b3) (.slice A3 zs3.length c3)).far (r := w.heap.size + 3) (by omega) (.bool b4) (.slice A4 zs4.length c4)
  have e0 := k4q.1.far (r := w.heap.size + 2) (by omega) (.bool b3) (.slice A3 zs3.length c3)
  have e2 := e0.stored (.bool b4) (.slice A4 zs4.length c4)
  obtain ⟨e1a, e1b⟩ := id e1
  obtain ⟨e2a, e2b⟩ := id e2
  have hn3 := (hl3'.2.1.res k4r.1 (.bool b3) (.slice A3 zs3.length c3)).res e0 (.bool b4) (.slice A4 zs4.length c4)
  have hn4 := (hl4.2.1.res k4r.1 (.bool b3) (.slice A3 zs3.length c3)).res e0 (.bool b4) (.slice A4 zs4.length c4)
  have hbe := below_then (below_then (begun_then (begun_then H.out.1 hb1 rfl rfl rfl rfl) hb2 rfl rfl rfl rfl) ⟨hb3.os, hb3.tape, hb3.output, hb3.size, hb3.block⟩) hb4
  refine bodyPost_ret (v := .tuple #[.agg #[.bool b3, .slice A3 zs3.length c3], .agg #[.bool b4, .slice A4 zs4.length c4], .int .i64 0]) (by simp [results, Try.results31, go_sem, e1a, e1b, e2a, e2b]) rfl ?_
  exact ⟨_, _, rfl, ⟨b3, A3, c3, zs3, rfl, hsg3, hl3'.1, hn3, hl3'.2.2⟩, ⟨b4, A4, c4, zs4, rfl, hsg4, hl4.1, hn4, hl4.2.2⟩,
    (((hbe.setCell (p := ⟨w.heap.size + 2, 0, none⟩) (by simp) _).setCell (p := ⟨w.heap.size + 2, 1, none⟩) (by simp) _).setCell (p := ⟨w.heap.size + 3, 0, none⟩) (by simp) _).setCell (p := ⟨w.heap.size + 3, 1, none⟩) (by simp) _⟩

set_option maxRecDepth 100000 in
set_option maxHeartbeats 1000000 in
theorem rdivide_sff (A1 : Option Addr) (c1 : Nat) (zs1 : List Nat) (A2 : Option Addr) (c2 : Nat) (zs2 : List Nat) (x y : Int) (w : World) (hs1 : SignOf false x) (hs2 : SignOf false y)
    (h1 : Digs w A1 c1 zs1 x.natAbs) (h2 : Digs w A2 c2 zs2 y.natAbs) (hl1 : zs1.length ≤ 100000) (hl2 : zs2.length ≤ 100000) (hy0 : y ≠ 0) :
    Calls Try.prog 31 #[.agg #[.bool false, .slice A1 zs1.length c1], .agg #[.bool false, .slice A2 zs2.length c2]] w fun e w' => IsQuoRemR w w' x y e := by
  have hd0 : 0 < y.natAbs := by omega
  have hbb := (begun2_below w (.bool false) (.slice A1 zs1.length c1) (.bool false) (.slice A2 zs2.length c2) 31).alloc (begun2_below w (.bool false) (.slice A1 zs1.length c1) (.bool false) (.slice A2 zs2.length c2) 31).size (.cells #[.bool false, .slice none 0 0] 31)
  have hsz0 := begun2_size w (.bool false) (.slice A1 zs1.length c1) (.bool false) (.slice A2 zs2.length c2) 31
  have hx0 := (begun2_x w (.bool false) (.slice A1 zs1.length c1) (.bool false) (.slice A2 zs2.length c2) 31).alloc (by omega) (.cells #[.bool false, .slice none 0 0] 31)
  have hy0 := (begun2_y w (.bool false) (.slice A1 zs1.length c1) (.bool false) (.slice A2 zs2.length c2) 31).alloc (by omega) (.cells #[.bool false, .slice none 0 0] 31)
  have hr0 := (begun2_r w (.bool false) (.slice A1 zs1.length c1) (.bool false) (.slice A2 zs2.length c2) 31).step ((Below.refl _ _).alloc (Nat.le_refl _) (.cells #[.bool false, .slice none 0 0] 31)) rfl (by omega)
  have hq0 := Res.new (begun2 w (.bool false) (.slice A1 zs1.length c1) (.bool false) (.slice A2 zs2.length c2) 31) 31
  rw [hsz0] at hq0
  have hsz : (begun4 w (.bool false) (.slice A1 zs1.length c1) (.bool false) (.slice A2 zs2.length c2) 31).heap.size = w.heap.size + 4 := by unfold begun4; rw [size_alloc, hsz0]
  have hi2 : RefAt (begun4 w (.bool false) (.slice A1 zs1.length c1) (.bool false) (.slice A2 zs2.length c2) 31) (.agg #[.bool false, .slice A2 zs2.length c2]) y := ⟨false, A2, c2, zs2, rfl, hs2, h2.below hbb⟩
  have hl2' := h2.below hbb
  have hl1' := h1.below hbb
  have hyb : y.natAbs < BD ^ zs2.length := by rw [← h2.2.2.2.2]; exact Lm.val_lt h2.2.2.1
  have hsg := RSign_any _ y zs2.length _ hi2 (by omega) hyb
  have hyn : (y.sign == 0) = false := by rw [beq_eq_false_iff_ne]; intro h; have := Int.sign_eq_zero_iff_zero.1 h; omega
  have H := Lib.hid (And.intro hbb (And.intro hx0 (And.intro hy0 (And.intro hr0 (And.intro hq0 (And.intro hsz (And.intro hsg (And.intro hl1' (And.intro hl2' hd0)))))))))
  have tok1 : True := trivial
  clear hbb hsz0 hx0 hy0 hr0 hq0 hsz hi2 hl2' hl1' hyb hsg hd0
  go_enter Try.func31, Try.ntmps31
  go_wp2_with fail
  refine H.out.2.2.2.2.2.2.1.mono ?_
  rintro e w1 ⟨rfl, hb1⟩
  have j1 : w.heap.size + 4 ≤ w1.heap.size := Nat.le_trans (Nat.le_of_eq H.out.2.2.2.2.2.1.symm) hb1.size
  have k1x := H.out.2.1.step hb1 rfl (Nat.lt_of_lt_of_eq (m := w.heap.size + 4) (by omega) H.out.2.2.2.2.2.1.symm)
  have k1y := H.out.2.2.1.step hb1 rfl (Nat.lt_of_lt_of_eq (m := w.heap.size + 4) (by omega) H.out.2.2.2.2.2.1.symm)
  have k1r := H.out.2.2.2.1.step hb1 rfl (Nat.lt_of_lt_of_eq (m := w.heap.size + 4) (by omega) H.out.2.2.2.2.2.1.symm)
  have k1q := H.out.2.2.2.2.1.step hb1 rfl (Nat.lt_of_lt_of_eq (m := w.heap.size + 4) (by omega) H.out.2.2.2.2.2.1.symm)
  obtain ⟨px0, px1⟩ := id k1x
  obtain ⟨py0, py1⟩ := id k1y
  have hdv := divided_all A1 c1 zs1 A2 c2 zs2 x.natAbs y.natAbs w1 (H.out.2.2.2.2.2.2.2.1.step hb1 rfl) (H.out.2.2.2.2.2.2.2.2.1.step hb1 rfl) hl1 hl2 H.out.2.2.2.2.2.2.2.2.2
  have HD := Lib.hid hdv
  clear hdv
  go_wp2_with fail
  refine HD.out.mono ?_
  rintro e w2 ⟨Aq, cq, zq, Ar, cr, zr, rfl, hq, hr, hb2⟩
  have j2 : w.heap.size + 4 ≤ w2.heap.size := Nat.le_trans j1 hb2.size
  have k2x := k1x.step hb2 rfl (by omega)
  have k2y := k1y.step hb2 rfl (by omega)
  have k2r := k1r.step hb2 rfl (by omega)
  have k2q := k1q.step hb2 rfl (by omega)
  have hlq : zq.length ≤ 1000000 := by have := rsmall_len (m := 100000) hq zs1 h1.2.2.1 (by rw [h1.2.2.2.2]; exact Nat.div_le_self _ _) hl1; omega
  have hlr : zr.length ≤ 1000000 := by have := rsmall_len (m := 100000) hr zs1 h1.2.2.1 (by rw [h1.2.2.2.2]; exact Nat.mod_le _ _) hl1; omega
  clear px0 px1 py0 py1
  obtain ⟨px0, px1⟩ := id k2x
  obtain ⟨py0, py1⟩ := id k2y
  go_wp2_with fail
  go_region_held3 (fun w' => w'.cell? ⟨w.heap.size, 0, none⟩ = some (.bool false) ∧ w'.cell? ⟨w.heap.size + 1, 0, none⟩ = some (.bool false))
    (((try dsimp only); (repeat' apply And.intro) <;> (first | (with_reducible assumption) | go_keep)))
    ((first | (go_at_call 72; have _t := tok1; refine (made_to false Aq cq zq (x.tdiv y) _ (by exact hq.2.1) hq.2.2.1 hlq hq.1 (by rw [hq.2.2.2.2]; exact div_parts hs1 hs2 rfl)).mono ?_; rintro e w3 ⟨v3, rfl, ⟨b3, A3, c3, zs3, rfl, hsg3, hl3⟩, hb3⟩; clear tok1; have j3 : w.heap.size + 4 ≤ w3.heap.size := Nat.le_trans j2 hb3.size; have k3x := k2x.step hb3 rfl (by omega); have k3y := k2y.step hb3 rfl (by omega); have k3r := k2r.step hb3 rfl (by omega); have k3q := k2q.step hb3 rfl (by omega); have hr3 := hr.step hb3 rfl; obtain ⟨qx0, qx1⟩ := id k3x; obtain ⟨qy0, qy1⟩ := id k3y) | (go_at_call 72; refine (made_to false Ar cr zr (x.tmod y) _ (by exact hr3.2.1) hr3.2.2.1 hlr hr3.1 (by rw [hr3.2.2.2.2]; exact mod_parts hs1)).mono ?_; rintro e w4 ⟨v4, rfl, ⟨b4, A4, c4, zs4, rfl, hsg4, hl4⟩, hb4⟩; have k4x := k3x.step hb4 rfl (by omega); have k4y := k3y.step hb4 rfl (by omega); have k4r := k3r.step hb4 rfl (by omega); have k4q := k3q.step hb4 rfl (by omega); have hl3' := hl3.step hb4 rfl; obtain ⟨sx0, sx1⟩ := id k4x; obtain ⟨sy0, sy1⟩ := id k4y; obtain ⟨⟨hr0, hr1⟩, hf0, hf1⟩ := id k4r; obtain ⟨⟨hq0, hq1⟩, hg0, hg1⟩ := id k4q; have m1 := k4x.far (r := w.heap.size + 2) (by omega) (.bool b3) (.slice A3 zs3.length c3); have m2 := k4y.far (r := w.heap.size + 2) (by omega) (.bool b3) (.slice A3 zs3.length c3); have m3 := m1.far (r := w.heap.size + 3) (by omega) (.bool b4) (.slice A4 zs4.length c4); have m4 := m2.far (r := w.heap.size + 3) (by omega) (.bool b4) (.slice A4 zs4.length c4); obtain ⟨m1a, m1b⟩ := id m1; obtain ⟨m2a, m2b⟩ := id m2; obtain ⟨m3a, m3b⟩ := id m3; obtain ⟨m4a, m4b⟩ := id m4)))
  go_wp2
  have e1 := (k4r.1.stored (.bool b3) (.slice A3 zs3.length c3)).far (r := w.heap.size + 3) (by omega) (.bool b4) (.slice A4 zs4.length c4)
  have e0 := k4q.1.far (r := w.heap.size + 2) (by omega) (.bool b3) (.slice A3 zs3.length c3)
  have e2 := e0.stored (.bool b4) (.slice A4 zs4.length c4)
  obtain ⟨e1a, e1b⟩ := id e1
  obtain ⟨e2a, e2b⟩ := id e2
  have hn3 := (hl3'.2.1.res k4r.1 (.bool b3) (.slice A3 zs3.length c3)).res e0 (.bool b4) (.slice A4 zs4.length c4)
  have hn4 := (hl4.2.1.res k4r.1 (.bool b3) (.slice A3 zs3.length c3)).res e0 (.bool b4) (.slice A4 zs4.length c4)
  have hbe := below_then (below_then (begun_then (begun_then H.out.1 hb1 rfl rfl rfl rfl) hb2 rfl rfl rfl rfl) ⟨hb3.os, hb3.tape, hb3.output, hb3.size, hb3.block⟩) hb4
  refine bodyPost_ret (v := .tuple #[.agg #[.bool b3, .slice A3 zs3.length c3], .agg #[.bool b4, .slice A4 zs4.length c4], .int .i64 0]) (by simp [results, Try.results31, go_sem, e1a, e1b, e2a, e2b]) rfl ?_
  exact ⟨_, _, rfl, ⟨b3, A3, c3, zs3, rfl, hsg3, hl3'.1, hn3, hl3'.2.2⟩, ⟨b4, A4, c4, zs4, rfl, hsg4, hl4.1, hn4, hl4.2.2⟩,
    (((hbe.setCell (p := ⟨w.heap.size + 2, 0, none⟩) (by simp) _).setCell (p := ⟨w.heap.size + 2, 1, none⟩) (by simp) _).setCell (p := ⟨w.heap.size + 3, 0, none⟩) (by simp) _).setCell (p := ⟨w.heap.size + 3, 1, none⟩) (by simp) _⟩


/-- A quotient and a rest of two integers, and the error of a division by 0. -/
def IsDivR (w w' : World) (q r k : Int) (e : Ending) : Prop := ∃ v1 v2, e = .returned (.tuple #[v1, v2, .int .i64 k]) ∧ RefAt w' v1 q ∧ RefAt w' v2 r ∧ Below w.heap.size w w'
theorem rdivide_some (v1 v2 : Value) (x y : Int) (m : Nat) (w : World) (h1 : RefAt w v1 x) (h2 : RefAt w v2 y) (hm : m ≤ 100000) (hx : x.natAbs < BD ^ m) (hy : y.natAbs < BD ^ m) (h0 : y ≠ 0) :
    Calls Try.prog 31 #[v1, v2] w fun e w' => IsDivR w w' (x.tdiv y) (x.tmod y) 0 e := by
  obtain ⟨b1, A1, c1, zs1, rfl, hs1, hd1⟩ := h1
  obtain ⟨b2, A2, c2, zs2, rfl, hs2, hd2⟩ := h2
  have l1 := Nat.le_trans (hd1.len hx) hm
  have l2 := Nat.le_trans (hd2.len hy) hm
  cases b1 <;> cases b2
  · exact rdivide_sff A1 c1 zs1 A2 c2 zs2 x y w hs1 hs2 hd1 hd2 l1 l2 h0
  · exact rdivide_sft A1 c1 zs1 A2 c2 zs2 x y w hs1 hs2 hd1 hd2 l1 l2 h0
  · exact rdivide_stf A1 c1 zs1 A2 c2 zs2 x y w hs1 hs2 hd1 hd2 l1 l2 h0
  · exact rdivide_stt A1 c1 zs1 A2 c2 zs2 x y w hs1 hs2 hd1 hd2 l1 l2 h0

set_option maxRecDepth 100000 in
set_option maxHeartbeats 1000000 in
theorem rdivide_none (v1 v2 : Value) (x : Int) (w : World) (h1 : RefAt w v1 x) (h2 : RefAt w v2 0) :
    Calls Try.prog 31 #[v1, v2] w fun e w' => IsDivR w w' 0 0 6 e := by
  obtain ⟨b1, A1, c1, zs1, rfl, hs1, hd1⟩ := h1
  obtain ⟨b2, A2, c2, zs2, rfl, hs2, hd2⟩ := h2
  have hbb := (begun2_below w (.bool b1) (.slice A1 zs1.length c1) (.bool b2) (.slice A2 zs2.length c2) 31).alloc (begun2_below w (.bool b1) (.slice A1 zs1.length c1) (.bool b2) (.slice A2 zs2.length c2) 31).size (.cells #[.bool false, .slice none 0 0] 31)
  have hsz0 := begun2_size w (.bool b1) (.slice A1 zs1.length c1) (.bool b2) (.slice A2 zs2.length c2) 31
  have hy0 := (begun2_y w (.bool b1) (.slice A1 zs1.length c1) (.bool b2) (.slice A2 zs2.length c2) 31).alloc (by omega) (.cells #[.bool false, .slice none 0 0] 31)
  have hr0 := (begun2_r w (.bool b1) (.slice A1 zs1.length c1) (.bool b2) (.slice A2 zs2.length c2) 31).step ((Below.refl _ _).alloc (Nat.le_refl _) (.cells #[.bool false, .slice none 0 0] 31)) rfl (by omega)
  have hq0 := Res.new (begun2 w (.bool b1) (.slice A1 zs1.length c1) (.bool b2) (.slice A2 zs2.length c2) 31) 31
  rw [hsz0] at hq0
  have hsz : (begun4 w (.bool b1) (.slice A1 zs1.length c1) (.bool b2) (.slice A2 zs2.length c2) 31).heap.size = w.heap.size + 4 := by unfold begun4; rw [size_alloc, hsz0]
  have hi2 : RefAt (begun4 w (.bool b1) (.slice A1 zs1.length c1) (.bool b2) (.slice A2 zs2.length c2) 31) (.agg #[.bool b2, .slice A2 zs2.length c2]) 0 := ⟨b2, A2, c2, zs2, rfl, hs2, hd2.below hbb⟩
  have hsg := RSign_any _ 0 1 _ hi2 (by decide) (by decide)
  have H := Lib.hid (And.intro hbb (And.intro hy0 (And.intro hr0 (And.intro hq0 (And.intro hsz hsg)))))
  clear hbb hsz0 hy0 hr0 hq0 hsz hi2 hsg hs1 hd1 hs2 hd2
  go_enter Try.func31, Try.ntmps31
  go_wp2_with fail
  refine H.out.2.2.2.2.2.mono ?_
  rw [show (0 : Int).sign = 0 from rfl]
  rintro e w1 ⟨rfl, hb1⟩
  have j1 : w.heap.size + 4 ≤ w1.heap.size := Nat.le_trans (Nat.le_of_eq H.out.2.2.2.2.1.symm) hb1.size
  have k1r := H.out.2.2.1.step hb1 rfl (Nat.lt_of_lt_of_eq (m := w.heap.size + 4) (by omega) H.out.2.2.2.2.1.symm)
  have k1q := H.out.2.2.2.1.step hb1 rfl (Nat.lt_of_lt_of_eq (m := w.heap.size + 4) (by omega) H.out.2.2.2.2.1.symm)
  obtain ⟨⟨hr0, hr1⟩, hf0, hf1⟩ := id k1r
  obtain ⟨⟨hq0, hq1⟩, hg0, hg1⟩ := id k1q
  go_wp2
  have e1 := (k1r.1.stored (.bool false) (.slice none 0 0)).far (r := w.heap.size + 3) (by omega) (.bool false) (.slice none 0 0)
  have e0 := k1q.1.far (r := w.heap.size + 2) (by omega) (.bool false) (.slice none 0 0)
  have e2 := e0.stored (.bool false) (.slice none 0 0)
  obtain ⟨e1a, e1b⟩ := id e1
  obtain ⟨e2a, e2b⟩ := id e2
  have hbe := begun_then H.out.1 hb1 rfl rfl rfl rfl
  refine bodyPost_ret (v := .tuple #[.agg #[.bool false, .slice none 0 0], .agg #[.bool false, .slice none 0 0], .int .i64 6]) (by simp [results, Try.results31, go_sem, e1a, e1b, e2a, e2b]) rfl ?_
  exact ⟨_, _, rfl, ⟨false, none, 0, [], rfl, by simp [SignOf], Nat.le_refl _, Nums.nil _ _ _, Lm.Ok.nil _, Lm.Top.nil, rfl⟩, ⟨false, none, 0, [], rfl, by simp [SignOf], Nat.le_refl _, Nums.nil _ _ _, Lm.Ok.nil _, Lm.Top.nil, rfl⟩,
    (((hbe.setCell (p := ⟨w.heap.size + 2, 0, none⟩) (by simp) _).setCell (p := ⟨w.heap.size + 2, 1, none⟩) (by simp) _).setCell (p := ⟨w.heap.size + 3, 0, none⟩) (by simp) _).setCell (p := ⟨w.heap.size + 3, 1, none⟩) (by simp) _⟩
end Go.Proofs.Ytagocllbfbbneaa
