/- The law IntegerPowers: it answers true. -/
import Derived.Test.YtagocllbfbbneaaMixKit
import Derived.Test.YtagocllbfbbneaaPowBoth
namespace Go.Proofs.Ytagocllbfbbneaa.RK
open Go.RowKit
set_option linter.unusedSimpArgs false

theorem fitn (s : Bool) {xs : List Nat} {m : Nat} (ho : Lm.Ok B32 xs) (hl : xs.length ≤ m) : (ofSign s (Lm.val B32 xs)).natAbs < B32 ^ m := by
  have h := Nat.lt_of_lt_of_le (Lm.val_lt ho) (Nat.pow_le_pow_right B32_pos hl)
  unfold ofSign
  cases s <;> simp <;> exact h

theorem rlen_abs (v : Value) (x : Int) (l m : Nat) (w : World) (h : RefAt w v (x.natAbs : Int)) (hm : 0 < m ∧ m ≤ 900000) (hx : x.natAbs < BD ^ m) (hl : bl x.natAbs = l) : Calls Try.prog 27 #[v] w fun e w' => IsNum w w' (l : Int) e := by
  have h2 := RLength_any v (x.natAbs : Int) m w h hm.1 hm.2 (by rw [Int.natAbs_natCast]; exact hx)
  rw [show magOf (x.natAbs : Int) = x.natAbs by unfold magOf; rw [if_neg (by omega)]; simp, hl] at h2
  exact h2

set_option maxRecDepth 100000 in
set_option maxHeartbeats 8000000 in
theorem powers_short (n n' x y a ea b eb : Int) (l : Nat) (s1 : Bool) (A1 : Option Addr) (c1 : Nat) (xs1 : List Nat) (s2 : Bool) (A2 : Option Addr) (c2 : Nat) (xs2 : List Nat) (w : World)
    (h1 : NAt w (.agg #[.bool s1, .slice A1 xs1.length c1]) x) (h2 : NAt w (.agg #[.bool s2, .slice A2 xs2.length c2]) y) (l1 : xs1.length ≤ 2) (l2 : xs2.length ≤ 8)
    (hx : x.natAbs < B32 ^ 2) (hl : bl x.natAbs = l) (g : Bool) (hcase : (n ≤ 40 ∧ g = false ∧ n' = n) ∨ (40 < n ∧ 1 < l ∧ g = true ∧ n' = 40) ∨ (40 < n ∧ l ≤ 1 ∧ g = false ∧ n' = n)) (hp : Hid (PowerB x n' a ea)) (hr : Hid (RootB y b eb)) :
    Calls Try.prog 5 #[.agg #[.bool s1, .slice A1 xs1.length c1], .int .i64 n, .agg #[.bool s2, .slice A2 xs2.length c2]] w fun e w' => IsBool w w' true e := by
  have hv0 := boxed2_vars w s1 s2 A1 A2 xs1 xs2 c1 c2 x y h1 h2
  have hb0 := boxed2_b w (.cells #[.bool s1, .slice A1 xs1.length c1] 24) (.cells #[.bool s2, .slice A2 xs2.length c2] 24)
  have hsz : ((w.alloc (.cells #[.bool s1, .slice A1 xs1.length c1] 24)).alloc (.cells #[.bool s2, .slice A2 xs2.length c2] 24)).heap.size = w.heap.size + 2 := by simp
  have sh1 := short1 8 s2 A2 xs2.length c2 ((w.alloc (.cells #[.bool s1, .slice A1 xs1.length c1] 24)).alloc (.cells #[.bool s2, .slice A2 xs2.length c2] 24)) true (decide_eq_true l2)
  rw [hsz] at sh1
  have sh2 : ∀ W : World, Calls Try.prog 14 #[.int .i64 2, .slice (some ⟨W.heap.size, 0, none⟩) 1 1] (W.alloc (.cells #[.bool s1, .slice A1 xs1.length c1] 24)) fun e w' => IsBool (W.alloc (.cells #[.bool s1, .slice A1 xs1.length c1] 24)) w' true e := fun W => short1 2 s1 A1 xs1.length c1 W true (decide_eq_true l1)
  have H := Lib.hid (And.intro sh1 sh2)
  have HX := Lib.hid (And.intro hx hl)
  have hv1 := hv0.alloc (.cells #[.bool s2, .slice A2 xs2.length c2] 24)
  have hb1 : Below w.heap.size w (((w.alloc (.cells #[.bool s1, .slice A1 xs1.length c1] 24)).alloc (.cells #[.bool s2, .slice A2 xs2.length c2] 24)).alloc (.cells #[.bool s2, .slice A2 xs2.length c2] 24)) := hb0.alloc (by simp; omega) _
  have HC := Lib.hid (And.intro hv1 hb1)
  clear hv0 hb0 hsz sh1 sh2 h1 h2 l1 l2 hx hl hv1 hb1
  go_enter Try.func5, Try.ntmps5
  go_wp2_with fail
  refine H.out.1.mono ?_
  rintro e w1 ⟨rfl, hb1⟩
  have HD := Lib.hid (And.intro (HC.out.1.step hb1 rfl) (below_then HC.out.2 hb1))
  have HE := Lib.hid (And.intro (HD.out.1.alloc (.cells #[.bool s1, .slice A1 xs1.length c1] 24)) (HD.out.2.alloc HD.out.2.size (.cells #[.bool s1, .slice A1 xs1.length c1] 24)))
  obtain ⟨px0, px1⟩ : Two w1 w.heap.size (.bool s1) (.slice A1 xs1.length c1) := (HD.out.1 1 _ rfl).two rfl
  clear HC hb1 HD
  go_wp2_with fail
  refine (H.out.2 w1).mono ?_
  rintro e w2 ⟨rfl, hb2⟩
  have HF := Lib.hid (And.intro (HE.out.1.step hb2 rfl) (below_then HE.out.2 hb2))
  clear HE hb2 px0 px1
  obtain ⟨px0, px1⟩ : Two w2 w.heap.size (.bool s1) (.slice A1 xs1.length c1) := (HF.out.1 1 _ rfl).two rfl
  go_wp2_with fail
  refine (of_is _ x _ ((HF.out.1 1 _ rfl).at_)).mono ?_
  rintro e wq1 ⟨qv1, rv1, rfl, ⟨qb1, qA1, qc1, qs1, rfl, qg1, ql1⟩, ⟨rb1, rA1, rc1, rs1, rfl, rg1, rl1⟩, hb1⟩
  have hv1 := (((((HF.out.1.step hb1 rfl).told1 rg1 rl1).told0 qg1 ql1).laid 28).swap).laid 31
  rw [size_alloc] at hv1
  have hl1 : Below w.heap.size w ((wq1.alloc (.cells #[.bool qb1, .slice qA1 qs1.length qc1] 28)).alloc (.cells #[.bool rb1, .slice rA1 rs1.length rc1] 31)) := (((below_then HF.out.2 hb1).alloc (Nat.le_trans HF.out.2.size hb1.size) (.cells #[.bool qb1, .slice qA1 qs1.length qc1] 28)).alloc (Nat.le_trans (Nat.le_trans HF.out.2.size hb1.size) (by simp)) (.cells #[.bool rb1, .slice rA1 rs1.length rc1] 31))
  obtain ⟨Wq1, hW1⟩ : ∃ W : World, W = (wq1.alloc (.cells #[.bool qb1, .slice qA1 qs1.length qc1] 28)).alloc (.cells #[.bool rb1, .slice rA1 rs1.length rc1] 31) := ⟨_, rfl⟩
  obtain ⟨rq1, hrq1⟩ : ∃ r : Nat, r = wq1.heap.size := ⟨_, rfl⟩
  obtain ⟨rr1, hrr1⟩ : ∃ r : Nat, r = wq1.heap.size + 1 := ⟨_, rfl⟩
  rw [← hW1] at hv1 hl1
  rw [← hrr1] at hv1
  rw [← hrq1] at hv1
  have HC1 := Lib.hid (And.intro hv1 hl1)
  have HW1 := Lib.hid hW1
  have HRq1 := Lib.hid hrq1
  have HRr1 := Lib.hid hrr1
  clear px0 px1
  clear hv1 hl1 hW1 hb1 hrq1 qg1 ql1 hrr1 rg1 rl1 HF
  go_upto_region 4 with fail
  rw [← HW1.out]
  rw [← HRr1.out]
  rw [← HRq1.out]
  clear HW1 HRq1 HRr1
  go_cut [42] (fun sl42 wx => sl42 = .bool g ∧ ∃ W : World, W = wx ∧ MVars W [⟨true, rr1, rb1, rA1, rs1.length, rc1, x, 1⟩, ⟨true, rq1, qb1, qA1, qs1.length, qc1, x, 0⟩, ⟨true, (w.heap.size + 1), s2, A2, xs2.length, c2, y, 2⟩, ⟨true, w.heap.size, s1, A1, xs1.length, c1, x, 2⟩] ∧ Below w.heap.size w W)
  case first => as_aux_lemma =>
    rcases hcase with ⟨hn, rfl, _⟩ | ⟨hn, hl1, rfl, _⟩ | ⟨hn, hl1, rfl, _⟩
    ·
      go_wp2
      go_meet
      exact ⟨by first | rfl | exact congrArg Value.bool (decide_eq_false (by omega)), _, rfl, HC1.out.1, HC1.out.2⟩
    ·
      have hlI : (1 : Int) < (l : Int) := by omega
      obtain ⟨pu0, pu1⟩ : Two Wq1 rr1 (.bool rb1) (.slice rA1 rs1.length rc1) := (HC1.out.1 0 _ rfl).two rfl
      go_wp2_with fail
      refine (RAbs_any _ x _ ((HC1.out.1 0 _ rfl).at_)).mono ?_
      rintro e wq3 ⟨qv3, rfl, ⟨qb3, qA3, qc3, qs3, rfl, qg3, ql3⟩, hb3⟩
      have HC3 := Lib.hid (And.intro ((HC1.out.1.step hb3 rfl).told1 qg3 ql3) (below_then HC1.out.2 hb3))
      clear pu0 pu1
      clear hb3 qg3 ql3 HC1
      go_wp2_with fail
      refine (rlen_abs _ x l 4 _ ((HC3.out.1 0 _ rfl).at_) (by decide) (bd_b32 HX.out.1) HX.out.2).mono ?_
      rintro e wq4 ⟨rfl, hb4⟩
      have HC4 := Lib.hid (And.intro (HC3.out.1.step hb4 rfl) (below_then HC3.out.2 hb4))
      clear hb4 HC3
      go_wp2
      go_meet
      exact ⟨by first | rfl | exact congrArg Value.bool (decide_eq_false (by omega)), _, rfl, HC4.out.1.tail, HC4.out.2⟩
    ·
      have hlI : (l : Int) ≤ 1 := by omega
      obtain ⟨pu0, pu1⟩ : Two Wq1 rr1 (.bool rb1) (.slice rA1 rs1.length rc1) := (HC1.out.1 0 _ rfl).two rfl
      go_wp2_with fail
      refine (RAbs_any _ x _ ((HC1.out.1 0 _ rfl).at_)).mono ?_
      rintro e wq5 ⟨qv5, rfl, ⟨qb5, qA5, qc5, qs5, rfl, qg5, ql5⟩, hb5⟩
      have HC5 := Lib.hid (And.intro ((HC1.out.1.step hb5 rfl).told1 qg5 ql5) (below_then HC1.out.2 hb5))
      clear pu0 pu1
      clear hb5 qg5 ql5 HC1
      go_wp2_with fail
      refine (rlen_abs _ x l 4 _ ((HC5.out.1 0 _ rfl).at_) (by decide) (bd_b32 HX.out.1) HX.out.2).mono ?_
      rintro e wq6 ⟨rfl, hb6⟩
      have HC6 := Lib.hid (And.intro (HC5.out.1.step hb6 rfl) (below_then HC5.out.2 hb6))
      clear hb6 HC5
      go_wp2
      go_meet
      exact ⟨by first | rfl | exact congrArg Value.bool (decide_eq_false (by omega)), _, rfl, HC6.out.1.tail, HC6.out.2⟩
  case rest =>
    obtain ⟨rfl, Wq2, rfl, hvs, hbl⟩ := hcut
    have HC2 := Lib.hid (And.intro hvs hbl)
    clear hvs hbl HC1
    go_upto_if 42 with fail
    go_cut [1] (fun sl1 wx => sl1 = .int .i64 n' ∧ ∃ W : World, W = wx ∧ MVars W [⟨true, rr1, rb1, rA1, rs1.length, rc1, x, 1⟩, ⟨true, rq1, qb1, qA1, qs1.length, qc1, x, 0⟩, ⟨true, (w.heap.size + 1), s2, A2, xs2.length, c2, y, 2⟩, ⟨true, w.heap.size, s1, A1, xs1.length, c1, x, 2⟩] ∧ Below w.heap.size w W)
    case first => as_aux_lemma =>
      rcases hcase with ⟨_, rfl, rfl⟩ | ⟨_, _, rfl, rfl⟩ | ⟨_, _, rfl, rfl⟩
      · go_wp2
        go_meet
        exact ⟨rfl, _, rfl, HC2.out.1, HC2.out.2⟩
      · go_wp2
        go_meet
        exact ⟨rfl, _, rfl, HC2.out.1, HC2.out.2⟩
      · go_wp2
        go_meet
        exact ⟨rfl, _, rfl, HC2.out.1, HC2.out.2⟩
    case rest =>
      obtain ⟨rfl, Wq7, rfl, hvs, hbl⟩ := hcut
      have HC7 := Lib.hid (And.intro hvs hbl)
      clear hvs hbl HC2
      go_upto_region 6 with fail
      obtain ⟨pa0, pa1⟩ : Two Wq7 rq1 (.bool qb1) (.slice qA1 qs1.length qc1) := (HC7.out.1 1 _ rfl).two rfl
      go_wp2_with fail
      refine (hp.out.p _ _ ((HC7.out.1 1 _ rfl).at_)).mono ?_
      rintro e wq8 ⟨qv8, rfl, ⟨qb8, qA8, qc8, qs8, rfl, qg8, ql8⟩, hb8⟩
      have hv8 := ((HC7.out.1.step hb8 rfl).told0 qg8 ql8).laid 28
      have hl8 : Below w.heap.size w (wq8.alloc (.cells #[.bool qb8, .slice qA8 qs8.length qc8] 28)) := ((below_then HC7.out.2 hb8).alloc (Nat.le_trans HC7.out.2.size hb8.size) (.cells #[.bool qb8, .slice qA8 qs8.length qc8] 28))
      obtain ⟨Wq8, hW8⟩ : ∃ W : World, W = wq8.alloc (.cells #[.bool qb8, .slice qA8 qs8.length qc8] 28) := ⟨_, rfl⟩
      obtain ⟨rq8, hrq8⟩ : ∃ r : Nat, r = wq8.heap.size := ⟨_, rfl⟩
      rw [← hW8] at hv8 hl8
      rw [← hrq8] at hv8
      have HC8 := Lib.hid (And.intro hv8 hl8)
      have HW8 := Lib.hid hW8
      have HRq8 := Lib.hid hrq8
      clear pa0 pa1
      clear hv8 hl8 hW8 hb8 hrq8 qg8 ql8 HC7
      go_upto_region 7 with fail
      rw [← HW8.out]
      rw [← HRq8.out]
      clear HW8 HRq8
      obtain ⟨pu0, pu1⟩ : Two Wq8 rr1 (.bool rb1) (.slice rA1 rs1.length rc1) := (HC8.out.1 1 _ rfl).two rfl
      go_wp2_with fail
      refine (hp.out.q _ _ ((HC8.out.1 1 _ rfl).at_)).mono ?_
      rintro e wq9 ⟨qv9, rfl, ⟨qb9, qA9, qc9, qs9, rfl, qg9, ql9⟩, hb9⟩
      have hv9 := ((HC8.out.1.step hb9 rfl).told1 qg9 ql9).laid 31
      have hl9 : Below w.heap.size w (wq9.alloc (.cells #[.bool qb9, .slice qA9 qs9.length qc9] 31)) := ((below_then HC8.out.2 hb9).alloc (Nat.le_trans HC8.out.2.size hb9.size) (.cells #[.bool qb9, .slice qA9 qs9.length qc9] 31))
      obtain ⟨Wq9, hW9⟩ : ∃ W : World, W = wq9.alloc (.cells #[.bool qb9, .slice qA9 qs9.length qc9] 31) := ⟨_, rfl⟩
      obtain ⟨rq9, hrq9⟩ : ∃ r : Nat, r = wq9.heap.size := ⟨_, rfl⟩
      rw [← hW9] at hv9 hl9
      rw [← hrq9] at hv9
      have HC9 := Lib.hid (And.intro hv9 hl9)
      have HW9 := Lib.hid hW9
      have HRq9 := Lib.hid hrq9
      clear pu0 pu1
      clear hv9 hl9 hW9 hb9 hrq9 qg9 ql9 HC8
      go_upto_region 8 with fail
      rw [← HW9.out]
      rw [← HRq9.out]
      clear HW9 HRq9
      obtain ⟨py0, py1⟩ : Two Wq9 (w.heap.size + 1) (.bool s2) (.slice A2 xs2.length c2) := (HC9.out.1 4 _ rfl).two rfl
      go_wp2_with fail
      refine (of_is _ y _ ((HC9.out.1 4 _ rfl).at_)).mono ?_
      rintro e wq10 ⟨qv10, rv10, rfl, ⟨qb10, qA10, qc10, qs10, rfl, qg10, ql10⟩, ⟨rb10, rA10, rc10, rs10, rfl, rg10, rl10⟩, hb10⟩
      have hv10 := (((((HC9.out.1.step hb10 rfl).told1 rg10 rl10).told0 qg10 ql10).laid 28).swap).laid 31
      rw [size_alloc] at hv10
      have hl10 : Below w.heap.size w ((wq10.alloc (.cells #[.bool qb10, .slice qA10 qs10.length qc10] 28)).alloc (.cells #[.bool rb10, .slice rA10 rs10.length rc10] 31)) := (((below_then HC9.out.2 hb10).alloc (Nat.le_trans HC9.out.2.size hb10.size) (.cells #[.bool qb10, .slice qA10 qs10.length qc10] 28)).alloc (Nat.le_trans (Nat.le_trans HC9.out.2.size hb10.size) (by simp)) (.cells #[.bool rb10, .slice rA10 rs10.length rc10] 31))
      obtain ⟨Wq10, hW10⟩ : ∃ W : World, W = (wq10.alloc (.cells #[.bool qb10, .slice qA10 qs10.length qc10] 28)).alloc (.cells #[.bool rb10, .slice rA10 rs10.length rc10] 31) := ⟨_, rfl⟩
      obtain ⟨rq10, hrq10⟩ : ∃ r : Nat, r = wq10.heap.size := ⟨_, rfl⟩
      obtain ⟨rr10, hrr10⟩ : ∃ r : Nat, r = wq10.heap.size + 1 := ⟨_, rfl⟩
      rw [← hW10] at hv10 hl10
      rw [← hrr10] at hv10
      rw [← hrq10] at hv10
      have HC10 := Lib.hid (And.intro hv10 hl10)
      have HW10 := Lib.hid hW10
      have HRq10 := Lib.hid hrq10
      have HRr10 := Lib.hid hrr10
      clear py0 py1
      clear hv10 hl10 hW10 hb10 hrq10 qg10 ql10 hrr10 rg10 rl10 HC9
      go_upto_region 9 with fail
      rw [← HW10.out]
      rw [← HRr10.out]
      rw [← HRq10.out]
      clear HW10 HRq10 HRr10
      obtain ⟨pb0, pb1⟩ : Two Wq10 rq10 (.bool qb10) (.slice qA10 qs10.length qc10) := (HC10.out.1 1 _ rfl).two rfl
      go_wp2_with fail
      refine (hr.out.p _ _ ((HC10.out.1 1 _ rfl).at_)).mono ?_
      rintro e wq11 ⟨qv11, rfl, ⟨qb11, qA11, qc11, qs11, rfl, qg11, ql11⟩, hb11⟩
      have hv11 := ((HC10.out.1.step hb11 rfl).told0 qg11 ql11).laid 28
      have hl11 : Below w.heap.size w (wq11.alloc (.cells #[.bool qb11, .slice qA11 qs11.length qc11] 28)) := ((below_then HC10.out.2 hb11).alloc (Nat.le_trans HC10.out.2.size hb11.size) (.cells #[.bool qb11, .slice qA11 qs11.length qc11] 28))
      obtain ⟨Wq11, hW11⟩ : ∃ W : World, W = wq11.alloc (.cells #[.bool qb11, .slice qA11 qs11.length qc11] 28) := ⟨_, rfl⟩
      obtain ⟨rq11, hrq11⟩ : ∃ r : Nat, r = wq11.heap.size := ⟨_, rfl⟩
      rw [← hW11] at hv11 hl11
      rw [← hrq11] at hv11
      have HC11 := Lib.hid (And.intro hv11 hl11)
      have HW11 := Lib.hid hW11
      have HRq11 := Lib.hid hrq11
      clear pb0 pb1
      clear hv11 hl11 hW11 hb11 hrq11 qg11 ql11 HC10
      go_upto_region 10 with fail
      rw [← HW11.out]
      rw [← HRq11.out]
      clear HW11 HRq11
      obtain ⟨pv0, pv1⟩ : Two Wq11 rr10 (.bool rb10) (.slice rA10 rs10.length rc10) := (HC11.out.1 1 _ rfl).two rfl
      go_wp2_with fail
      refine (hr.out.q _ _ ((HC11.out.1 1 _ rfl).at_)).mono ?_
      rintro e wq12 ⟨qv12, rfl, ⟨qb12, qA12, qc12, qs12, rfl, qg12, ql12⟩, hb12⟩
      have hv12 := ((HC11.out.1.step hb12 rfl).told1 qg12 ql12).laid 31
      have hl12 : Below w.heap.size w (wq12.alloc (.cells #[.bool qb12, .slice qA12 qs12.length qc12] 31)) := ((below_then HC11.out.2 hb12).alloc (Nat.le_trans HC11.out.2.size hb12.size) (.cells #[.bool qb12, .slice qA12 qs12.length qc12] 31))
      obtain ⟨Wq12, hW12⟩ : ∃ W : World, W = wq12.alloc (.cells #[.bool qb12, .slice qA12 qs12.length qc12] 31) := ⟨_, rfl⟩
      obtain ⟨rq12, hrq12⟩ : ∃ r : Nat, r = wq12.heap.size := ⟨_, rfl⟩
      rw [← hW12] at hv12 hl12
      rw [← hrq12] at hv12
      have HC12 := Lib.hid (And.intro hv12 hl12)
      have HW12 := Lib.hid hW12
      have HRq12 := Lib.hid hrq12
      clear pv0 pv1
      clear hv12 hl12 hW12 hb12 hrq12 qg12 ql12 HC11
      go_upto_region 11 with fail
      rw [← HW12.out]
      rw [← HRq12.out]
      clear HW12 HRq12
      obtain ⟨pp0, pp1⟩ : Two Wq12 rq8 (.bool qb8) (.slice qA8 qs8.length qc8) := (HC12.out.1 5 _ rfl).two rfl
      obtain ⟨pq0, pq1⟩ : Two Wq12 rq9 (.bool qb9) (.slice qA9 qs9.length qc9) := (HC12.out.1 4 _ rfl).two rfl
      go_wp2_with fail
      refine (is_same _ _ a 200 _ ((HC12.out.1 5 _ rfl).at_) ((HC12.out.1 4 _ rfl).at_) (by decide) hp.out.fit).mono ?_
      rintro e wq13 ⟨rfl, hb13⟩
      have HC13 := Lib.hid (And.intro (HC12.out.1.step hb13 rfl) (below_then HC12.out.2 hb13))
      clear pp0 pp1 pq0 pq1
      clear hb13 HC12
      obtain ⟨pr0, pr1⟩ : Two wq13 rq11 (.bool qb11) (.slice qA11 qs11.length qc11) := (HC13.out.1 1 _ rfl).two rfl
      obtain ⟨ps0, ps1⟩ : Two wq13 rq12 (.bool qb12) (.slice qA12 qs12.length qc12) := (HC13.out.1 0 _ rfl).two rfl
      go_wp2_with fail
      refine (is_same _ _ b 200 _ ((HC13.out.1 1 _ rfl).at_) ((HC13.out.1 0 _ rfl).at_) (by decide) hr.out.fit).mono ?_
      rintro e wq14 ⟨rfl, hb14⟩
      have HC14 := Lib.hid (And.intro (HC13.out.1.step hb14 rfl) (below_then HC13.out.2 hb14))
      clear pr0 pr1 ps0 ps1
      clear hb14 HC13
      go_wp2_with fail
      refine (awake_any _).mono ?_
      rintro e wq15 ⟨rfl, hb15⟩
      have HC15 := Lib.hid (And.intro (HC14.out.1.step hb15 rfl) (below_then HC14.out.2 hb15))
      clear hb15 HC14
      go_wp2
      go_ret
      exact ⟨rfl, HC15.out.2⟩
end Go.Proofs.Ytagocllbfbbneaa.RK
