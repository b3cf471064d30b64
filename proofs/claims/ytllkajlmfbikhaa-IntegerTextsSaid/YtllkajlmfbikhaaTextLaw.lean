/- The law IntegerTexts: it answers true. -/
import Derived.Test.YtllkajlmfbikhaaTextBoth
namespace Go.Proofs.Ytllkajlmfbikhaa.RK
open Go.RowKit
set_option linter.unusedSimpArgs false

theorem boxed1_vars (w : World) (s1 : Bool) (A1 : Option Addr) (xs1 : List Nat) (c1 : Nat) (x : Int) (h1 : NAt w (.agg #[.bool s1, .slice A1 xs1.length c1]) x) :
    MVars (w.alloc (.cells #[.bool s1, .slice A1 xs1.length c1] 24)) [⟨true, w.heap.size, s1, A1, xs1.length, c1, x, 2⟩] :=
  ((MVars.nil w).cons (t := ⟨false, 0, s1, A1, xs1.length, c1, x, 2⟩) ⟨fun e => (by cases e), fun e => (by cases e), show NAt _ _ _ from h1⟩).laid 24

set_option maxRecDepth 100000 in
set_option maxHeartbeats 8000000 in
theorem texts_short (s t : ByteArray) (k x et y ey : Int) (s1 : Bool) (A1 : Option Addr) (c1 : Nat) (xs1 : List Nat) (w : World)
    (h1 : NAt w (.agg #[.bool s1, .slice A1 xs1.length c1]) x) (l1 : xs1.length ≤ 12) (hs : s.size ≤ 200) (ha : Hid (TextB x s k t et y ey)) :
    Calls Try.prog 9 #[.agg #[.bool s1, .slice A1 xs1.length c1], .string s, .int .i64 k] w fun e w' => IsBool w w' true e := by
  have hv0 := (boxed1_vars w s1 A1 xs1 c1 x h1).alloc (.cells #[.bool s1, .slice A1 xs1.length c1] 24)
  have hb0 := boxed2_b w (.cells #[.bool s1, .slice A1 xs1.length c1] 24) (.cells #[.bool s1, .slice A1 xs1.length c1] 24)
  have sh := short1 12 s1 A1 xs1.length c1 (w.alloc (.cells #[.bool s1, .slice A1 xs1.length c1] 24)) true (decide_eq_true l1)
  have H := Lib.hid sh
  rw [size_alloc] at H
  have HC := Lib.hid (And.intro hv0 hb0)
  clear hv0 hb0 sh h1 l1
  go_enter Try.func9, Try.ntmps9
  go_wp2_with fail
  refine H.out.mono ?_
  rintro e w1 ⟨rfl, hb1⟩
  have HD := Lib.hid (And.intro (HC.out.1.step hb1 rfl) (below_then HC.out.2 hb1))
  clear hb1 HC
  obtain ⟨px0, px1⟩ : Two w1 w.heap.size (.bool s1) (.slice A1 xs1.length c1) := (HD.out.1 0 _ rfl).two rfl
  go_wp2_with fail
  refine (of_is _ x _ ((HD.out.1 0 _ rfl).at_)).mono ?_
  rintro e wq1 ⟨qv1, rv1, rfl, ⟨qb1, qA1, qc1, qs1, rfl, qg1, ql1⟩, ⟨rb1, rA1, rc1, rs1, rfl, rg1, rl1⟩, hb1⟩
  have hv1 := (((((HD.out.1.step hb1 rfl).told1 rg1 rl1).told0 qg1 ql1).laid 28).swap).laid 31
  rw [size_alloc] at hv1
  have hl1 : Below w.heap.size w ((wq1.alloc (.cells #[.bool qb1, .slice qA1 qs1.length qc1] 28)).alloc (.cells #[.bool rb1, .slice rA1 rs1.length rc1] 31)) := (((below_then HD.out.2 hb1).alloc (Nat.le_trans HD.out.2.size hb1.size) (.cells #[.bool qb1, .slice qA1 qs1.length qc1] 28)).alloc (Nat.le_trans (Nat.le_trans HD.out.2.size hb1.size) (by simp)) (.cells #[.bool rb1, .slice rA1 rs1.length rc1] 31))
  obtain ⟨Wq1, hW1⟩ : ∃ W : World, W = (wq1.alloc (.cells #[.bool qb1, .slice qA1 qs1.length qc1] 28)).alloc (.cells #[.bool rb1, .slice rA1 rs1.length rc1] 31) := ⟨_, rfl⟩
  obtain ⟨rq1, hrq1⟩ : ∃ r : Nat, r = wq1.heap.size := ⟨_, rfl⟩
  obtain ⟨rr1, hrr1⟩ : ∃ r : Nat, r = wq1.heap.size + 1 := ⟨_, rfl⟩
  rw [← hW1] at hv1 hl1
  rw [← hrr1] at hv1
  rw [← hrq1] at hv1
  have HC1 := Lib.hid (And.intro hv1 hl1)
  have HW1 := Lib.hid hW1
  have HRq1 := Lib.hid hrq1
  have HRr1 := Lib.hid hrr1
  clear px0 px1
  clear hv1 hl1 hW1 hb1 hrq1 qg1 ql1 hrr1 rg1 rl1 HD
  go_upto_region 4 with fail
  rw [← HW1.out]
  rw [← HRr1.out]
  rw [← HRq1.out]
  clear HW1 HRq1 HRr1
  obtain ⟨pa0, pa1⟩ : Two Wq1 rq1 (.bool qb1) (.slice qA1 qs1.length qc1) := (HC1.out.1 1 _ rfl).two rfl
  go_wp2_with fail
  refine (ha.out.pt _ _ ((HC1.out.1 1 _ rfl).at_)).mono ?_
  rintro e wq2 ⟨rfl, hb2⟩
  have HC2 := Lib.hid (And.intro (HC1.out.1.step hb2 rfl) (below_then HC1.out.2 hb2))
  clear pa0 pa1
  clear hb2 HC1
  obtain ⟨pu0, pu1⟩ : Two wq2 rr1 (.bool rb1) (.slice rA1 rs1.length rc1) := (HC2.out.1 0 _ rfl).two rfl
  go_wp2_with fail
  refine (ha.out.qt _ _ ((HC2.out.1 0 _ rfl).at_)).mono ?_
  rintro e wq3 ⟨rfl, hb3⟩
  have HC3 := Lib.hid (And.intro (HC2.out.1.step hb3 rfl) (below_then HC2.out.2 hb3))
  clear pu0 pu1
  clear hb3 HC2
  go_wp2_with fail
  refine (ha.out.pp _).mono ?_
  rintro e wq4 ⟨qv4, rfl, ⟨qb4, qA4, qc4, qs4, rfl, qg4, ql4⟩, hb4⟩
  have hv4 := ((HC3.out.1.step hb4 rfl).told0 qg4 ql4).laid 28
  have hl4 : Below w.heap.size w (wq4.alloc (.cells #[.bool qb4, .slice qA4 qs4.length qc4] 28)) := ((below_then HC3.out.2 hb4).alloc (Nat.le_trans HC3.out.2.size hb4.size) (.cells #[.bool qb4, .slice qA4 qs4.length qc4] 28))
  obtain ⟨Wq4, hW4⟩ : ∃ W : World, W = wq4.alloc (.cells #[.bool qb4, .slice qA4 qs4.length qc4] 28) := ⟨_, rfl⟩
  obtain ⟨rq4, hrq4⟩ : ∃ r : Nat, r = wq4.heap.size := ⟨_, rfl⟩
  rw [← hW4] at hv4 hl4
  rw [← hrq4] at hv4
  have HC4 := Lib.hid (And.intro hv4 hl4)
  have HW4 := Lib.hid hW4
  have HRq4 := Lib.hid hrq4
  clear hv4 hl4 hW4 hb4 hrq4 qg4 ql4 HC3
  go_upto_region 7 with fail
  rw [← HW4.out]
  rw [← HRq4.out]
  clear HW4 HRq4
  go_wp2_with fail
  refine (ha.out.qp _).mono ?_
  rintro e wq5 ⟨qv5, rfl, ⟨qb5, qA5, qc5, qs5, rfl, qg5, ql5⟩, hb5⟩
  have hv5 := ((HC4.out.1.step hb5 rfl).told1 qg5 ql5).laid 31
  have hl5 : Below w.heap.size w (wq5.alloc (.cells #[.bool qb5, .slice qA5 qs5.length qc5] 31)) := ((below_then HC4.out.2 hb5).alloc (Nat.le_trans HC4.out.2.size hb5.size) (.cells #[.bool qb5, .slice qA5 qs5.length qc5] 31))
  obtain ⟨Wq5, hW5⟩ : ∃ W : World, W = wq5.alloc (.cells #[.bool qb5, .slice qA5 qs5.length qc5] 31) := ⟨_, rfl⟩
  obtain ⟨rq5, hrq5⟩ : ∃ r : Nat, r = wq5.heap.size := ⟨_, rfl⟩
  rw [← hW5] at hv5 hl5
  rw [← hrq5] at hv5
  have HC5 := Lib.hid (And.intro hv5 hl5)
  have HW5 := Lib.hid hW5
  have HRq5 := Lib.hid hrq5
  clear hv5 hl5 hW5 hb5 hrq5 qg5 ql5 HC4
  go_upto_region 8 with fail
  rw [← HW5.out]
  rw [← HRq5.out]
  clear HW5 HRq5
  obtain ⟨pb0, pb1⟩ : Two Wq5 rq4 (.bool qb4) (.slice qA4 qs4.length qc4) := (HC5.out.1 1 _ rfl).two rfl
  obtain ⟨pc0, pc1⟩ : Two Wq5 rq5 (.bool qb5) (.slice qA5 qs5.length qc5) := (HC5.out.1 0 _ rfl).two rfl
  go_wp2_with fail
  refine (is_same _ _ y 80 _ ((HC5.out.1 1 _ rfl).at_) ((HC5.out.1 0 _ rfl).at_) (by decide) ha.out.fy).mono ?_
  rintro e wq6 ⟨rfl, hb6⟩
  have HC6 := Lib.hid (And.intro (HC5.out.1.step hb6 rfl) (below_then HC5.out.2 hb6))
  clear pb0 pb1 pc0 pc1
  clear hb6 HC5
  go_wp2_with fail
  refine (awake_any _).mono ?_
  rintro e wq7 ⟨rfl, hb7⟩
  have HC7 := Lib.hid (And.intro (HC6.out.1.step hb7 rfl) (below_then HC6.out.2 hb7))
  clear hb7 HC6
  go_wp2
  go_ret
  exact ⟨rfl, HC7.out.2⟩
end Go.Proofs.Ytllkajlmfbikhaa.RK
