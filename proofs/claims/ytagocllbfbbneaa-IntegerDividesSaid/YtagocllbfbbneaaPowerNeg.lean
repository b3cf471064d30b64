/- What Power does with an exponent below 0, and Divide with the divisor 0. -/
import Derived.Test.YtagocllbfbbneaaPowA
namespace Go.Proofs.Ytagocllbfbbneaa
open Go.RowKit
set_option linter.unusedSimpArgs false

set_option maxRecDepth 100000 in
set_option maxHeartbeats 1000000 in
theorem power_neg (v : Value) (z n : Int) (w : World) (h : IntAt w v z) (hn : n < 0) :
    Calls Try.prog 46 #[v, .int .i64 n] w fun e w' => IsIE w w' 0 1 e := by
  obtain ⟨b, A, c, zs, rfl, hs, hl⟩ := h
  have hb0 := begun1_below w (.bool b) (.slice A zs.length c) 28
  have hR := begun1_r w (.bool b) (.slice A zs.length c) 28
  obtain ⟨W, hW⟩ : ∃ W, begun1 w (.bool b) (.slice A zs.length c) 28 = W := ⟨_, rfl⟩
  rw [hW] at hb0 hR
  unfold begun1 at hW
  have H := Lib.hid (And.intro hb0 (And.intro hR hW))
  obtain ⟨⟨hr0, hr1⟩, hf0, hf1⟩ := id hR
  clear hb0 hR hW hs hl
  go_enter Try.func46, Try.ntmps46
  go_upto_region 1 with fail
  rw [H.out.2.2]
  go_wp2
  have q := H.out.2.1.1.stored (.bool false) (.slice none 0 0)
  obtain ⟨q0, q1⟩ := id q
  refine bodyPost_ret (v := .tuple #[.agg #[.bool false, .slice none 0 0], .int .i64 1]) (by simp [results, Try.results46, go_sem, q0, q1]) rfl ?_
  exact intE_stored (zs := []) H.out.2.1 (by simp [SignOf]) ⟨Nat.le_refl _, Nums.nil _ _ _, Lm.Ok.nil _, Lm.Top.nil, rfl⟩ H.out.1 (by omega)

set_option maxRecDepth 100000 in
set_option maxHeartbeats 1000000 in
theorem divide_none (v1 v2 : Value) (x : Int) (w : World) (h1 : IntAt w v1 x) (h2 : IntAt w v2 0) :
    Calls Try.prog 30 #[v1, v2] w fun e w' => IsDivE w w' 0 0 6 e := by
  obtain ⟨b1, A1, c1, zs1, rfl, hs1, hd1⟩ := h1
  obtain ⟨b2, A2, c2, zs2, rfl, hs2, hd2⟩ := h2
  have hbb := (begun2_below w (.bool b1) (.slice A1 zs1.length c1) (.bool b2) (.slice A2 zs2.length c2) 28).alloc (begun2_below w (.bool b1) (.slice A1 zs1.length c1) (.bool b2) (.slice A2 zs2.length c2) 28).size (.cells #[.bool false, .slice none 0 0] 28)
  have hsz0 := begun2_size w (.bool b1) (.slice A1 zs1.length c1) (.bool b2) (.slice A2 zs2.length c2) 28
  have hy0 := (begun2_y w (.bool b1) (.slice A1 zs1.length c1) (.bool b2) (.slice A2 zs2.length c2) 28).alloc (by omega) (.cells #[.bool false, .slice none 0 0] 28)
  have hr0 := (begun2_r w (.bool b1) (.slice A1 zs1.length c1) (.bool b2) (.slice A2 zs2.length c2) 28).step ((Below.refl _ _).alloc (Nat.le_refl _) (.cells #[.bool false, .slice none 0 0] 28)) rfl (by omega)
  have hq0 := Res.new (begun2 w (.bool b1) (.slice A1 zs1.length c1) (.bool b2) (.slice A2 zs2.length c2) 28) 28
  rw [hsz0] at hq0
  have hsz : (begun4 w (.bool b1) (.slice A1 zs1.length c1) (.bool b2) (.slice A2 zs2.length c2) 28).heap.size = w.heap.size + 4 := by unfold begun4; rw [size_alloc, hsz0]
  have hi2 : IntAt (begun4 w (.bool b1) (.slice A1 zs1.length c1) (.bool b2) (.slice A2 zs2.length c2) 28) (.agg #[.bool b2, .slice A2 zs2.length c2]) 0 := ⟨b2, A2, c2, zs2, rfl, hs2, hd2.below hbb⟩
  have hsg := Sign_any _ 0 1 _ hi2 (by decide) (by decide)
  have H := Lib.hid (And.intro hbb (And.intro hy0 (And.intro hr0 (And.intro hq0 (And.intro hsz hsg)))))
  clear hbb hsz0 hy0 hr0 hq0 hsz hi2 hsg hs1 hd1 hs2 hd2
  go_enter Try.func30, Try.ntmps30
  go_wp2_with fail
  refine H.out.2.2.2.2.2.mono ?_
  rw [show (0 : Int).sign = 0 from rfl]
  rintro e w1 ⟨rfl, hb1⟩
  have j1 : w.heap.size + 4 ≤ w1.heap.size := Nat.le_trans (Nat.le_of_eq H.out.2.2.2.2.1.symm) hb1.size
  have k1r := H.out.2.2.1.step hb1 rfl (Nat.lt_of_lt_of_eq (m := w.heap.size + 4) (by omega) H.out.2.2.2.2.1.symm)
  have k1q := H.out.2.2.2.1.step hb1 rfl (Nat.lt_of_lt_of_eq (m := w.heap.size + 4) (by omega) H.out.2.2.2.2.1.symm)
  obtain ⟨⟨hr0, hr1⟩, hf0, hf1⟩ := id k1r
  obtain ⟨⟨hq0, hq1⟩, hg0, hg1⟩ := id k1q
  go_wp2
  have e1 := (k1r.1.stored (.bool false) (.slice none 0 0)).far (r := w.heap.size + 3) (by omega) (.bool false) (.slice none 0 0)
  have e0 := k1q.1.far (r := w.heap.size + 2) (by omega) (.bool false) (.slice none 0 0)
  have e2 := e0.stored (.bool false) (.slice none 0 0)
  obtain ⟨e1a, e1b⟩ := id e1
  obtain ⟨e2a, e2b⟩ := id e2
  have hbe := begun_then H.out.1 hb1 rfl rfl rfl rfl
  refine bodyPost_ret (v := .tuple #[.agg #[.bool false, .slice none 0 0], .agg #[.bool false, .slice none 0 0], .int .i64 6]) (by simp [results, Try.results30, go_sem, e1a, e1b, e2a, e2b]) rfl ?_
  exact ⟨_, _, rfl, ⟨false, none, 0, [], rfl, by simp [SignOf], Nat.le_refl _, Nums.nil _ _ _, Lm.Ok.nil _, Lm.Top.nil, rfl⟩, ⟨false, none, 0, [], rfl, by simp [SignOf], Nat.le_refl _, Nums.nil _ _ _, Lm.Ok.nil _, Lm.Top.nil, rfl⟩,
    (((hbe.setCell (p := ⟨w.heap.size + 2, 0, none⟩) (by simp) _).setCell (p := ⟨w.heap.size + 2, 1, none⟩) (by simp) _).setCell (p := ⟨w.heap.size + 3, 0, none⟩) (by simp) _).setCell (p := ⟨w.heap.size + 3, 1, none⟩) (by simp) _⟩
end Go.Proofs.Ytagocllbfbbneaa
