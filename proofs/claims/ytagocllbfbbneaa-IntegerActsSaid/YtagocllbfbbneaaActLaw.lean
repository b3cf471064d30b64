/- The law IntegerActs: it answers true. -/
import Derived.Test.YtagocllbfbbneaaActBoth
import Derived.Test.YtagocllbfbbneaaMixDraw
namespace Go.Proofs.Ytagocllbfbbneaa.RK
open Go.RowKit
set_option linter.unusedSimpArgs false

set_option maxRecDepth 100000 in
set_option maxHeartbeats 8000000 in
theorem acts_short (x y q r er c n a s m p g : Int) (s1 : Bool) (A1 : Option Addr) (c1 : Nat) (xs1 : List Nat) (s2 : Bool) (A2 : Option Addr) (c2 : Nat) (xs2 : List Nat) (w : World)
    (h1 : NAt w (.agg #[.bool s1, .slice A1 xs1.length c1]) x) (h2 : NAt w (.agg #[.bool s2, .slice A2 xs2.length c2]) y) (l1 : xs1.length ≤ 8) (l2 : xs2.length ≤ 8) (ha : Hid (ActB x y q r er c n a s m p g)) :
    Calls Try.prog 4 #[.agg #[.bool s1, .slice A1 xs1.length c1], .agg #[.bool s2, .slice A2 xs2.length c2]] w fun e w' => IsBool w w' true e := by
  have hv0 := boxed2_vars w s1 s2 A1 A2 xs1 xs2 c1 c2 x y h1 h2
  have hb0 := boxed2_b w (.cells #[.bool s1, .slice A1 xs1.length c1] 24) (.cells #[.bool s2, .slice A2 xs2.length c2] 24)
  have hsz : ((w.alloc (.cells #[.bool s1, .slice A1 xs1.length c1] 24)).alloc (.cells #[.bool s2, .slice A2 xs2.length c2] 24)).heap.size = w.heap.size + 2 := by simp
  have sh := short2 8 s1 s2 A1 A2 xs1.length xs2.length c1 c2 ((w.alloc (.cells #[.bool s1, .slice A1 xs1.length c1] 24)).alloc (.cells #[.bool s2, .slice A2 xs2.length c2] 24)) true (decide_eq_true ⟨l1, l2⟩)
  rw [hsz] at sh
  have hv1 := hv0.alloc (.cells #[.bool s1, .slice A1 xs1.length c1, .bool s2, .slice A2 xs2.length c2] 24)
  have hb1 : Below w.heap.size w (((w.alloc (.cells #[.bool s1, .slice A1 xs1.length c1] 24)).alloc (.cells #[.bool s2, .slice A2 xs2.length c2] 24)).alloc (.cells #[.bool s1, .slice A1 xs1.length c1, .bool s2, .slice A2 xs2.length c2] 24)) := hb0.alloc (by simp; omega) _
  have H := Lib.hid sh
  have HC := Lib.hid (And.intro hv1 hb1)
  clear hv0 hb0 hsz sh h1 h2 l1 l2 hv1 hb1
  go_enter Try.func4, Try.ntmps4
  go_wp2_with fail
  refine H.out.mono ?_
  rintro e w1 ⟨rfl, hb1⟩
  have HD := Lib.hid (And.intro (HC.out.1.step hb1 rfl) (below_then HC.out.2 hb1))
  clear hb1 HC
  obtain ⟨px0, px1⟩ : Two w1 w.heap.size (.bool s1) (.slice A1 xs1.length c1) := (HD.out.1 1 _ rfl).two rfl
  go_wp2_with fail
  refine (of_is _ x _ ((HD.out.1 1 _ rfl).at_)).mono ?_
  rintro e wq1 ⟨qv1, rv1, rfl, ⟨qb1, qA1, qc1, qs1, rfl, qg1, ql1⟩, ⟨rb1, rA1, rc1, rs1, rfl, rg1, rl1⟩, hb1⟩
  have hv1 := (((((HD.out.1.step hb1 rfl).told1 rg1 rl1).told0 qg1 ql1).laid 28).swap).laid 31
  rw [size_alloc] at hv1
  have hl1 : Below w.heap.size w ((wq1.alloc (.cells #[.bool qb1, .slice qA1 qs1.length qc1] 28)).alloc (.cells #[.bool rb1, .slice rA1 rs1.length rc1] 31)) := (((below_then HD.out.2 hb1).alloc (Nat.le_trans HD.out.2.size hb1.size) (.cells #[.bool qb1, .slice qA1 qs1.length qc1] 28)).alloc (Nat.le_trans (Nat.le_trans HD.out.2.size hb1.size) (by simp)) (.cells #[.bool rb1, .slice rA1 rs1.length rc1] 31))
  obtain ⟨Wq1, hW1⟩ : ∃ W : World, W = (wq1.alloc (.cells #[.bool qb1, .slice qA1 qs1.length qc1] 28)).alloc (.cells #[.bool rb1, .slice rA1 rs1.length rc1] 31) := ⟨_, rfl⟩
  obtain ⟨rq1, hrq1⟩ : ∃ r : Nat, r = wq1.heap.size := ⟨_, rfl⟩
  obtain ⟨rr1, hrr1⟩ : ∃ r : Nat, r = wq1.heap.size + 1 := ⟨_, rfl⟩
  rw [← hW1] at hv1 hl1
  rw [← hrr1] at hv1
  rw [← hrq1] at hv1
  have HC1 := Lib.hid (And.intro hv1 hl1)
  have HW1 := Lib.hid hW1
  have HRq1 := Lib.hid hrq1
  have HRr1 := Lib.hid hrr1
  clear px0 px1
  clear hv1 hl1 hW1 hb1 hrq1 qg1 ql1 hrr1 rg1 rl1 HD
  go_upto_region 4 with fail
  rw [← HW1.out]
  rw [← HRr1.out]
  rw [← HRq1.out]
  clear HW1 HRq1 HRr1
  obtain ⟨py0, py1⟩ : Two Wq1 (w.heap.size + 1) (.bool s2) (.slice A2 xs2.length c2) := (HC1.out.1 2 _ rfl).two rfl
  go_wp2_with fail
  refine (of_is _ y _ ((HC1.out.1 2 _ rfl).at_)).mono ?_
  rintro e wq2 ⟨qv2, rv2, rfl, ⟨qb2, qA2, qc2, qs2, rfl, qg2, ql2⟩, ⟨rb2, rA2, rc2, rs2, rfl, rg2, rl2⟩, hb2⟩
  have hv2 := (((((HC1.out.1.step hb2 rfl).told1 rg2 rl2).told0 qg2 ql2).laid 28).swap).laid 31
  rw [size_alloc] at hv2
  have hl2 : Below w.heap.size w ((wq2.alloc (.cells #[.bool qb2, .slice qA2 qs2.length qc2] 28)).alloc (.cells #[.bool rb2, .slice rA2 rs2.length rc2] 31)) := (((below_then HC1.out.2 hb2).alloc (Nat.le_trans HC1.out.2.size hb2.size) (.cells #[.bool qb2, .slice qA2 qs2.length qc2] 28)).alloc (Nat.le_trans (Nat.le_trans HC1.out.2.size hb2.size) (by simp)) (.cells #[.bool rb2, .slice rA2 rs2.length rc2] 31))
  obtain ⟨Wq2, hW2⟩ : ∃ W : World, W = (wq2.alloc (.cells #[.bool qb2, .slice qA2 qs2.length qc2] 28)).alloc (.cells #[.bool rb2, .slice rA2 rs2.length rc2] 31) := ⟨_, rfl⟩
  obtain ⟨rq2, hrq2⟩ : ∃ r : Nat, r = wq2.heap.size := ⟨_, rfl⟩
  obtain ⟨rr2, hrr2⟩ : ∃ r : Nat, r = wq2.heap.size + 1 := ⟨_, rfl⟩
  rw [← hW2] at hv2 hl2
  rw [← hrr2] at hv2
  rw [← hrq2] at hv2
  have HC2 := Lib.hid (And.intro hv2 hl2)
  have HW2 := Lib.hid hW2
  have HRq2 := Lib.hid hrq2
  have HRr2 := Lib.hid hrr2
  clear py0 py1
  clear hv2 hl2 hW2 hb2 hrq2 qg2 ql2 hrr2 rg2 rl2 HC1
  go_upto_region 5 with fail
  rw [← HW2.out]
  rw [← HRr2.out]
  rw [← HRq2.out]
  clear HW2 HRq2 HRr2
  obtain ⟨pa0, pa1⟩ : Two Wq2 rq1 (.bool qb1) (.slice qA1 qs1.length qc1) := (HC2.out.1 3 _ rfl).two rfl
  obtain ⟨pb0, pb1⟩ : Two Wq2 rq2 (.bool qb2) (.slice qA2 qs2.length qc2) := (HC2.out.1 1 _ rfl).two rfl
  go_wp2_with fail
  refine (ha.out.pd _ _ _ ((HC2.out.1 3 _ rfl).at_) ((HC2.out.1 1 _ rfl).at_)).mono ?_
  rintro e wq3 ⟨qv3, rv3, rfl, ⟨qb3, qA3, qc3, qs3, rfl, qg3, ql3⟩, ⟨rb3, rA3, rc3, rs3, rfl, rg3, rl3⟩, hb3⟩
  have hv3 := (((((HC2.out.1.step hb3 rfl).told0 rg3 rl3).told0 qg3 ql3).laid 28).swap).laid 28
  rw [size_alloc] at hv3
  have hl3 : Below w.heap.size w ((wq3.alloc (.cells #[.bool qb3, .slice qA3 qs3.length qc3] 28)).alloc (.cells #[.bool rb3, .slice rA3 rs3.length rc3] 28)) := (((below_then HC2.out.2 hb3).alloc (Nat.le_trans HC2.out.2.size hb3.size) (.cells #[.bool qb3, .slice qA3 qs3.length qc3] 28)).alloc (Nat.le_trans (Nat.le_trans HC2.out.2.size hb3.size) (by simp)) (.cells #[.bool rb3, .slice rA3 rs3.length rc3] 28))
  obtain ⟨Wq3, hW3⟩ : ∃ W : World, W = (wq3.alloc (.cells #[.bool qb3, .slice qA3 qs3.length qc3] 28)).alloc (.cells #[.bool rb3, .slice rA3 rs3.length rc3] 28) := ⟨_, rfl⟩
  obtain ⟨rq3, hrq3⟩ : ∃ r : Nat, r = wq3.heap.size := ⟨_, rfl⟩
  obtain ⟨rr3, hrr3⟩ : ∃ r : Nat, r = wq3.heap.size + 1 := ⟨_, rfl⟩
  rw [← hW3] at hv3 hl3
  rw [← hrr3] at hv3
  rw [← hrq3] at hv3
  have HC3 := Lib.hid (And.intro hv3 hl3)
  have HW3 := Lib.hid hW3
  have HRq3 := Lib.hid hrq3
  have HRr3 := Lib.hid hrr3
  clear pa0 pa1 pb0 pb1
  clear hv3 hl3 hW3 hb3 hrq3 qg3 ql3 hrr3 rg3 rl3 HC2
  go_upto_region 6 with fail
  rw [← HW3.out]
  rw [← HRr3.out]
  rw [← HRq3.out]
  clear HW3 HRq3 HRr3
  obtain ⟨pu0, pu1⟩ : Two Wq3 rr1 (.bool rb1) (.slice rA1 rs1.length rc1) := (HC3.out.1 4 _ rfl).two rfl
  obtain ⟨pv0, pv1⟩ : Two Wq3 rr2 (.bool rb2) (.slice rA2 rs2.length rc2) := (HC3.out.1 2 _ rfl).two rfl
  go_wp2_with fail
  refine (ha.out.qd _ _ _ ((HC3.out.1 4 _ rfl).at_) ((HC3.out.1 2 _ rfl).at_)).mono ?_
  rintro e wq4 ⟨qv4, rv4, rfl, ⟨qb4, qA4, qc4, qs4, rfl, qg4, ql4⟩, ⟨rb4, rA4, rc4, rs4, rfl, rg4, rl4⟩, hb4⟩
  have hv4 := (((((HC3.out.1.step hb4 rfl).told1 rg4 rl4).told1 qg4 ql4).laid 31).swap).laid 31
  rw [size_alloc] at hv4
  have hl4 : Below w.heap.size w ((wq4.alloc (.cells #[.bool qb4, .slice qA4 qs4.length qc4] 31)).alloc (.cells #[.bool rb4, .slice rA4 rs4.length rc4] 31)) := (((below_then HC3.out.2 hb4).alloc (Nat.le_trans HC3.out.2.size hb4.size) (.cells #[.bool qb4, .slice qA4 qs4.length qc4] 31)).alloc (Nat.le_trans (Nat.le_trans HC3.out.2.size hb4.size) (by simp)) (.cells #[.bool rb4, .slice rA4 rs4.length rc4] 31))
  obtain ⟨Wq4, hW4⟩ : ∃ W : World, W = (wq4.alloc (.cells #[.bool qb4, .slice qA4 qs4.length qc4] 31)).alloc (.cells #[.bool rb4, .slice rA4 rs4.length rc4] 31) := ⟨_, rfl⟩
  obtain ⟨rq4, hrq4⟩ : ∃ r : Nat, r = wq4.heap.size := ⟨_, rfl⟩
  obtain ⟨rr4, hrr4⟩ : ∃ r : Nat, r = wq4.heap.size + 1 := ⟨_, rfl⟩
  rw [← hW4] at hv4 hl4
  rw [← hrr4] at hv4
  rw [← hrq4] at hv4
  have HC4 := Lib.hid (And.intro hv4 hl4)
  have HW4 := Lib.hid hW4
  have HRq4 := Lib.hid hrq4
  have HRr4 := Lib.hid hrr4
  clear pu0 pu1 pv0 pv1
  clear hv4 hl4 hW4 hb4 hrq4 qg4 ql4 hrr4 rg4 rl4 HC3
  go_upto_region 7 with fail
  rw [← HW4.out]
  rw [← HRr4.out]
  rw [← HRq4.out]
  clear HW4 HRq4 HRr4
  have HD5 := Lib.hid (And.intro HC4.out.1.drew HC4.out.2.drew)
  refine wp_region_held_drew (S := MCells [⟨true, rr4, rb4, rA4, rs4.length, rc4, r, 1⟩, ⟨true, rq4, qb4, qA4, qs4.length, qc4, q, 1⟩, ⟨true, rr3, rb3, rA3, rs3.length, rc3, r, 0⟩, ⟨true, rq3, qb3, qA3, qs3.length, qc3, q, 0⟩, ⟨true, rr2, rb2, rA2, rs2.length, rc2, y, 1⟩, ⟨true, rq2, qb2, qA2, qs2.length, qc2, y, 0⟩, ⟨true, rr1, rb1, rA1, rs1.length, rc1, x, 1⟩, ⟨true, rq1, qb1, qA1, qs1.length, qc1, x, 0⟩, ⟨true, (w.heap.size + 1), s2, A2, xs2.length, c2, y, 2⟩, ⟨true, w.heap.size, s1, A1, xs1.length, c1, x, 2⟩]) (by kernel_rfl) (HD5.out.1.cells) (fun hH0 => ?_)
  refine wpAnyH_take (i := 0) (v := (.agg #[.bool qb1, .slice qA1 qs1.length qc1])) rfl (by kernel_rfl) (by kernel_rfl) (by kernel_rfl) (fun _ _ _ h => h) (Or.inl ⟨by kernel_rfl, fun w0 hS0 => run_loadP (hS0 7 _ rfl rfl) (.tmp 5) (by kernel_rfl) (by kernel_rfl)⟩) hH0 ?r1
  change wpAnyH _ _ _ _ _ _ _ (Act.put _ (some 45) _) _
  simp only [Act.put, List.setIfInBounds_toArray, List.set_cons_zero, List.set_cons_succ]
  refine wpAnyH_take (i := 1) (v := (.agg #[.bool qb2, .slice qA2 qs2.length qc2])) rfl (by kernel_rfl) (by kernel_rfl) (by kernel_rfl) (fun _ _ _ h => h) (Or.inl ⟨by kernel_rfl, fun w0 hS0 => run_loadP (hS0 5 _ rfl rfl) (.tmp 7) (by kernel_rfl) (by kernel_rfl)⟩) hH0 ?r2
  change wpAnyH _ _ _ _ _ _ _ (Act.put _ (some 46) _) _
  simp only [Act.put, List.setIfInBounds_toArray, List.set_cons_zero, List.set_cons_succ]
  refine wpAnyH_take (i := 3) (v := (.agg #[.bool rb1, .slice rA1 rs1.length rc1])) rfl (by kernel_rfl) (by kernel_rfl) (by kernel_rfl) (fun _ _ _ h => h) (Or.inl ⟨by kernel_rfl, fun w0 hS0 => run_load (hS0 6 _ rfl rfl) (.tmp 6) (by kernel_rfl) (by kernel_rfl)⟩) hH0 ?r3
  change wpAnyH _ _ _ _ _ _ _ (Act.put _ (some 48) _) _
  simp only [Act.put, List.setIfInBounds_toArray, List.set_cons_zero, List.set_cons_succ]
  refine wpAnyH_take (i := 4) (v := (.agg #[.bool rb2, .slice rA2 rs2.length rc2])) rfl (by kernel_rfl) (by kernel_rfl) (by kernel_rfl) (fun _ _ _ h => h) (Or.inl ⟨by kernel_rfl, fun w0 hS0 => run_load (hS0 4 _ rfl rfl) (.tmp 8) (by kernel_rfl) (by kernel_rfl)⟩) hH0 ?r4
  change wpAnyH _ _ _ _ _ _ _ (Act.put _ (some 49) _) _
  simp only [Act.put, List.setIfInBounds_toArray, List.set_cons_zero, List.set_cons_succ]
  refine wpAnyH_ready (rs := [2]) (by kernel_rfl) (by simp) ?_
  refine AllReadyH.cons rfl (fun K hK0 => ?d5) (AllReadyH.nil)
  have hK := hK0.out
  clear hK0
  rw [if_pos (by kernel_rfl)]
  refine wp_go_call 32 #[(.agg #[.bool qb1, .slice qA1 qs1.length qc1]), (.agg #[.bool qb2, .slice qA2 qs2.length qc2])] (fun _ => by kernel_rfl) ((ha.out.pc _ _ _ ((HD5.out.1 7 _ rfl).at_) ((HD5.out.1 5 _ rfl).at_)).mono ?_)
  rintro e wq6 ⟨rfl, hb6⟩
  have HD6 := Lib.hid (And.intro (HD5.out.1.step hb6 rfl) (below_then HD5.out.2 hb6))
  clear hb6 HD5
  refine ⟨(.int .i64 c), rfl, hK _ _ (HD6.out.1.cells) (fun hH6 => ?_)⟩
  clear hK K hH0
  change wpAnyH _ _ _ _ _ _ _ (Act.put _ (some 47) _) _
  simp only [Act.put, List.setIfInBounds_toArray, List.set_cons_zero, List.set_cons_succ]
  refine wpAnyH_ready (rs := [5]) (by kernel_rfl) (by simp) ?_
  refine AllReadyH.cons rfl (fun K hK0 => ?d6) (AllReadyH.nil)
  have hK := hK0.out
  clear hK0
  rw [if_pos (by kernel_rfl)]
  refine wp_go_call 33 #[(.agg #[.bool rb1, .slice rA1 rs1.length rc1]), (.agg #[.bool rb2, .slice rA2 rs2.length rc2])] (fun _ => by kernel_rfl) ((ha.out.qc _ _ _ ((HD6.out.1 6 _ rfl).at_) ((HD6.out.1 4 _ rfl).at_)).mono ?_)
  rintro e wq7 ⟨rfl, hb7⟩
  have HD7 := Lib.hid (And.intro (HD6.out.1.step hb7 rfl) (below_then HD6.out.2 hb7))
  clear hb7 HD6
  refine ⟨(.int .i64 c), rfl, hK _ _ (HD7.out.1.cells) (fun hH7 => ?_)⟩
  clear hK K hH6
  change wpAnyH _ _ _ _ _ _ _ (Act.put _ (some 50) _) _
  simp only [Act.put, List.setIfInBounds_toArray, List.set_cons_zero, List.set_cons_succ]
  refine wpAnyH_take (i := 6) (v := (.bool true)) rfl (by kernel_rfl) (by kernel_rfl) (by kernel_rfl) (fun _ _ _ h => h) (Or.inl ⟨by kernel_rfl, fun w0 hS0 => by go_simp⟩) hH7 ?r7
  change wpAnyH _ _ _ _ _ _ _ (Act.put _ (some 51) _) _
  simp only [Act.put, List.setIfInBounds_toArray, List.set_cons_zero, List.set_cons_succ]
  refine wpAnyH_take (i := 7) (v := (.bool true)) rfl (by kernel_rfl) (by kernel_rfl) (by kernel_rfl) (fun _ _ _ h => h) (Or.inl ⟨by kernel_rfl, fun _ _ => by kernel_rfl⟩) hH7 ?r8
  change wpAnyH _ _ _ _ _ _ _ (Act.put _ (some 52) _) _
  simp only [Act.put, List.setIfInBounds_toArray, List.set_cons_zero, List.set_cons_succ]
  refine wpAnyH_take (i := 8) (v := (.agg #[.bool qb1, .slice qA1 qs1.length qc1])) rfl (by kernel_rfl) (by kernel_rfl) (by kernel_rfl) (fun _ _ _ h => h) (Or.inl ⟨by kernel_rfl, fun w0 hS0 => run_loadP (hS0 7 _ rfl rfl) (.tmp 5) (by kernel_rfl) (by kernel_rfl)⟩) hH7 ?r9
  change wpAnyH _ _ _ _ _ _ _ (Act.put _ (some 53) _) _
  simp only [Act.put, List.setIfInBounds_toArray, List.set_cons_zero, List.set_cons_succ]
  refine wpAnyH_take (i := 10) (v := (.agg #[.bool rb1, .slice rA1 rs1.length rc1])) rfl (by kernel_rfl) (by kernel_rfl) (by kernel_rfl) (fun _ _ _ h => h) (Or.inl ⟨by kernel_rfl, fun w0 hS0 => run_load (hS0 6 _ rfl rfl) (.tmp 6) (by kernel_rfl) (by kernel_rfl)⟩) hH7 ?r10
  change wpAnyH _ _ _ _ _ _ _ (Act.put _ (some 55) _) _
  simp only [Act.put, List.setIfInBounds_toArray, List.set_cons_zero, List.set_cons_succ]
  refine wpAnyH_ready (rs := [9]) (by kernel_rfl) (by simp) ?_
  refine AllReadyH.cons rfl (fun K hK0 => ?d11) (AllReadyH.nil)
  have hK := hK0.out
  clear hK0
  rw [if_pos (by kernel_rfl)]
  refine wp_go_call 34 #[(.agg #[.bool qb1, .slice qA1 qs1.length qc1])] (fun _ => by kernel_rfl) ((ha.out.pn _ _ ((HD7.out.1 7 _ rfl).at_)).mono ?_)
  rintro e wq8 ⟨qv8, rfl, ⟨qb8, qA8, qc8, qs8, rfl, qg8, ql8⟩, hb8⟩
  have HD8 := Lib.hid (And.intro ((HD7.out.1.step hb8 rfl).told0 qg8 ql8) (below_then HD7.out.2 hb8))
  clear qg8 ql8 hb8 HD7
  refine ⟨(.agg #[.bool qb8, .slice qA8 qs8.length qc8]), rfl, hK _ _ (HD8.out.1.tail.cells) (fun hH8 => ?_)⟩
  clear hK K hH7
  change wpAnyH _ _ _ _ _ _ _ (Act.put _ (some 54) _) _
  simp only [Act.put, List.setIfInBounds_toArray, List.set_cons_zero, List.set_cons_succ]
  refine wpAnyH_ready (rs := [11]) (by kernel_rfl) (by simp) ?_
  refine AllReadyH.cons rfl (fun K hK0 => ?d12) (AllReadyH.nil)
  have hK := hK0.out
  clear hK0
  rw [if_pos (by kernel_rfl)]
  refine wp_go_call 35 #[(.agg #[.bool rb1, .slice rA1 rs1.length rc1])] (fun _ => by kernel_rfl) ((ha.out.qn _ _ ((HD8.out.1 7 _ rfl).at_)).mono ?_)
  rintro e wq9 ⟨qv9, rfl, ⟨qb9, qA9, qc9, qs9, rfl, qg9, ql9⟩, hb9⟩
  have HD9 := Lib.hid (And.intro ((HD8.out.1.step hb9 rfl).told1 qg9 ql9) (below_then HD8.out.2 hb9))
  clear qg9 ql9 hb9 HD8
  refine ⟨(.agg #[.bool qb9, .slice qA9 qs9.length qc9]), rfl, hK _ _ (HD9.out.1.tail.tail.cells) (fun hH9 => ?_)⟩
  clear hK K hH8
  change wpAnyH _ _ _ _ _ _ _ (Act.put _ (some 56) _) _
  simp only [Act.put, List.setIfInBounds_toArray, List.set_cons_zero, List.set_cons_succ]
  refine wpAnyH_ready (rs := [12]) (by kernel_rfl) (by simp) ?_
  refine AllReadyH.cons rfl (fun K hK0 => ?d13) (AllReadyH.nil)
  have hK := hK0.out
  clear hK0
  rw [if_pos (by kernel_rfl)]
  refine wp_go_call 21 #[(.agg #[.bool qb8, .slice qA8 qs8.length qc8]), (.agg #[.bool qb9, .slice qA9 qs9.length qc9])] (fun _ => by kernel_rfl) ((is_same _ _ n 40 _ ((HD9.out.1 1 _ rfl).at_) ((HD9.out.1 0 _ rfl).at_) (by decide) ha.out.fn).mono ?_)
  rintro e wq10 ⟨rfl, hb10⟩
  have HD10 := Lib.hid (And.intro (HD9.out.1.step hb10 rfl) (below_then HD9.out.2 hb10))
  clear hb10 HD9
  refine ⟨(.bool true), rfl, hK _ _ (HD10.out.1.tail.tail.cells) (fun hH10 => ?_)⟩
  clear hK K hH9
  change wpAnyH _ _ _ _ _ _ _ (Act.put _ (some 57) _) _
  simp only [Act.put, List.setIfInBounds_toArray, List.set_cons_zero, List.set_cons_succ]
  refine wpAnyH_take (i := 13) (v := (.bool true)) rfl (by kernel_rfl) (by kernel_rfl) (by kernel_rfl) (fun _ _ _ h => h) (Or.inl ⟨by kernel_rfl, fun _ _ => by kernel_rfl⟩) hH10 ?r14
  change wpAnyH _ _ _ _ _ _ _ (Act.put _ (some 58) _) _
  simp only [Act.put, List.setIfInBounds_toArray, List.set_cons_zero, List.set_cons_succ]
  refine wpAnyH_take (i := 14) (v := (.bool true)) rfl (by kernel_rfl) (by kernel_rfl) (by kernel_rfl) (fun _ _ _ h => h) (Or.inl ⟨by kernel_rfl, fun _ _ => by kernel_rfl⟩) hH10 ?r15
  change wpAnyH _ _ _ _ _ _ _ (Act.put _ (some 59) _) _
  simp only [Act.put, List.setIfInBounds_toArray, List.set_cons_zero, List.set_cons_succ]
  refine wpAnyH_take (i := 15) (v := (.agg #[.bool qb1, .slice qA1 qs1.length qc1])) rfl (by kernel_rfl) (by kernel_rfl) (by kernel_rfl) (fun _ _ _ h => h) (Or.inl ⟨by kernel_rfl, fun w0 hS0 => run_loadP (hS0 7 _ rfl rfl) (.tmp 5) (by kernel_rfl) (by kernel_rfl)⟩) hH10 ?r16
  change wpAnyH _ _ _ _ _ _ _ (Act.put _ (some 60) _) _
  simp only [Act.put, List.setIfInBounds_toArray, List.set_cons_zero, List.set_cons_succ]
  refine wpAnyH_take (i := 17) (v := (.agg #[.bool rb1, .slice rA1 rs1.length rc1])) rfl (by kernel_rfl) (by kernel_rfl) (by kernel_rfl) (fun _ _ _ h => h) (Or.inl ⟨by kernel_rfl, fun w0 hS0 => run_load (hS0 6 _ rfl rfl) (.tmp 6) (by kernel_rfl) (by kernel_rfl)⟩) hH10 ?r17
  change wpAnyH _ _ _ _ _ _ _ (Act.put _ (some 62) _) _
  simp only [Act.put, List.setIfInBounds_toArray, List.set_cons_zero, List.set_cons_succ]
  refine wpAnyH_ready (rs := [16]) (by kernel_rfl) (by simp) ?_
  refine AllReadyH.cons rfl (fun K hK0 => ?d18) (AllReadyH.nil)
  have hK := hK0.out
  clear hK0
  rw [if_pos (by kernel_rfl)]
  refine wp_go_call 36 #[(.agg #[.bool qb1, .slice qA1 qs1.length qc1])] (fun _ => by kernel_rfl) ((ha.out.pa _ _ ((HD10.out.1 9 _ rfl).at_)).mono ?_)
  rintro e wq11 ⟨qv11, rfl, ⟨qb11, qA11, qc11, qs11, rfl, qg11, ql11⟩, hb11⟩
  have HD11 := Lib.hid (And.intro ((HD10.out.1.step hb11 rfl).told0 qg11 ql11) (below_then HD10.out.2 hb11))
  clear qg11 ql11 hb11 HD10
  refine ⟨(.agg #[.bool qb11, .slice qA11 qs11.length qc11]), rfl, hK _ _ (HD11.out.1.tail.tail.tail.cells) (fun hH11 => ?_)⟩
  clear hK K hH10
  change wpAnyH _ _ _ _ _ _ _ (Act.put _ (some 61) _) _
  simp only [Act.put, List.setIfInBounds_toArray, List.set_cons_zero, List.set_cons_succ]
  refine wpAnyH_ready (rs := [18]) (by kernel_rfl) (by simp) ?_
  refine AllReadyH.cons rfl (fun K hK0 => ?d19) (AllReadyH.nil)
  have hK := hK0.out
  clear hK0
  rw [if_pos (by kernel_rfl)]
  refine wp_go_call 37 #[(.agg #[.bool rb1, .slice rA1 rs1.length rc1])] (fun _ => by kernel_rfl) ((ha.out.qa _ _ ((HD11.out.1 9 _ rfl).at_)).mono ?_)
  rintro e wq12 ⟨qv12, rfl, ⟨qb12, qA12, qc12, qs12, rfl, qg12, ql12⟩, hb12⟩
  have HD12 := Lib.hid (And.intro ((HD11.out.1.step hb12 rfl).told1 qg12 ql12) (below_then HD11.out.2 hb12))
  clear qg12 ql12 hb12 HD11
  refine ⟨(.agg #[.bool qb12, .slice qA12 qs12.length qc12]), rfl, hK _ _ (HD12.out.1.tail.tail.tail.tail.cells) (fun hH12 => ?_)⟩
  clear hK K hH11
  change wpAnyH _ _ _ _ _ _ _ (Act.put _ (some 63) _) _
  simp only [Act.put, List.setIfInBounds_toArray, List.set_cons_zero, List.set_cons_succ]
  refine wpAnyH_ready (rs := [19]) (by kernel_rfl) (by simp) ?_
  refine AllReadyH.cons rfl (fun K hK0 => ?d20) (AllReadyH.nil)
  have hK := hK0.out
  clear hK0
  rw [if_pos (by kernel_rfl)]
  refine wp_go_call 21 #[(.agg #[.bool qb11, .slice qA11 qs11.length qc11]), (.agg #[.bool qb12, .slice qA12 qs12.length qc12])] (fun _ => by kernel_rfl) ((is_same _ _ a 40 _ ((HD12.out.1 1 _ rfl).at_) ((HD12.out.1 0 _ rfl).at_) (by decide) ha.out.fa).mono ?_)
  rintro e wq13 ⟨rfl, hb13⟩
  have HD13 := Lib.hid (And.intro (HD12.out.1.step hb13 rfl) (below_then HD12.out.2 hb13))
  clear hb13 HD12
  refine ⟨(.bool true), rfl, hK _ _ (HD13.out.1.tail.tail.tail.tail.cells) (fun hH13 => ?_)⟩
  clear hK K hH12
  change wpAnyH _ _ _ _ _ _ _ (Act.put _ (some 64) _) _
  simp only [Act.put, List.setIfInBounds_toArray, List.set_cons_zero, List.set_cons_succ]
  refine wpAnyH_take (i := 20) (v := (.bool true)) rfl (by kernel_rfl) (by kernel_rfl) (by kernel_rfl) (fun _ _ _ h => h) (Or.inl ⟨by kernel_rfl, fun _ _ => by kernel_rfl⟩) hH13 ?r21
  change wpAnyH _ _ _ _ _ _ _ (Act.put _ (some 65) _) _
  simp only [Act.put, List.setIfInBounds_toArray, List.set_cons_zero, List.set_cons_succ]
  refine wpAnyH_take (i := 21) (v := (.bool true)) rfl (by kernel_rfl) (by kernel_rfl) (by kernel_rfl) (fun _ _ _ h => h) (Or.inl ⟨by kernel_rfl, fun _ _ => by kernel_rfl⟩) hH13 ?r22
  change wpAnyH _ _ _ _ _ _ _ (Act.put _ (some 66) _) _
  simp only [Act.put, List.setIfInBounds_toArray, List.set_cons_zero, List.set_cons_succ]
  refine wpAnyH_take (i := 22) (v := (.agg #[.bool qb1, .slice qA1 qs1.length qc1])) rfl (by kernel_rfl) (by kernel_rfl) (by kernel_rfl) (fun _ _ _ h => h) (Or.inl ⟨by kernel_rfl, fun w0 hS0 => run_loadP (hS0 7 _ rfl rfl) (.tmp 5) (by kernel_rfl) (by kernel_rfl)⟩) hH13 ?r23
  change wpAnyH _ _ _ _ _ _ _ (Act.put _ (some 67) _) _
  simp only [Act.put, List.setIfInBounds_toArray, List.set_cons_zero, List.set_cons_succ]
  refine wpAnyH_take (i := 23) (v := (.agg #[.bool qb2, .slice qA2 qs2.length qc2])) rfl (by kernel_rfl) (by kernel_rfl) (by kernel_rfl) (fun _ _ _ h => h) (Or.inl ⟨by kernel_rfl, fun w0 hS0 => run_loadP (hS0 5 _ rfl rfl) (.tmp 7) (by kernel_rfl) (by kernel_rfl)⟩) hH13 ?r24
  change wpAnyH _ _ _ _ _ _ _ (Act.put _ (some 68) _) _
  simp only [Act.put, List.setIfInBounds_toArray, List.set_cons_zero, List.set_cons_succ]
  refine wpAnyH_take (i := 25) (v := (.agg #[.bool rb1, .slice rA1 rs1.length rc1])) rfl (by kernel_rfl) (by kernel_rfl) (by kernel_rfl) (fun _ _ _ h => h) (Or.inl ⟨by kernel_rfl, fun w0 hS0 => run_load (hS0 6 _ rfl rfl) (.tmp 6) (by kernel_rfl) (by kernel_rfl)⟩) hH13 ?r25
  change wpAnyH _ _ _ _ _ _ _ (Act.put _ (some 70) _) _
  simp only [Act.put, List.setIfInBounds_toArray, List.set_cons_zero, List.set_cons_succ]
  refine wpAnyH_take (i := 26) (v := (.agg #[.bool rb2, .slice rA2 rs2.length rc2])) rfl (by kernel_rfl) (by kernel_rfl) (by kernel_rfl) (fun _ _ _ h => h) (Or.inl ⟨by kernel_rfl, fun w0 hS0 => run_load (hS0 4 _ rfl rfl) (.tmp 8) (by kernel_rfl) (by kernel_rfl)⟩) hH13 ?r26
  change wpAnyH _ _ _ _ _ _ _ (Act.put _ (some 71) _) _
  simp only [Act.put, List.setIfInBounds_toArray, List.set_cons_zero, List.set_cons_succ]
  refine wpAnyH_ready (rs := [24]) (by kernel_rfl) (by simp) ?_
  refine AllReadyH.cons rfl (fun K hK0 => ?d27) (AllReadyH.nil)
  have hK := hK0.out
  clear hK0
  rw [if_pos (by kernel_rfl)]
  refine wp_go_call 38 #[(.agg #[.bool qb1, .slice qA1 qs1.length qc1]), (.agg #[.bool qb2, .slice qA2 qs2.length qc2])] (fun _ => by kernel_rfl) ((ha.out.ps _ _ _ ((HD13.out.1 11 _ rfl).at_) ((HD13.out.1 9 _ rfl).at_)).mono ?_)
  rintro e wq14 ⟨qv14, rfl, ⟨qb14, qA14, qc14, qs14, rfl, qg14, ql14⟩, hb14⟩
  have HD14 := Lib.hid (And.intro ((HD13.out.1.step hb14 rfl).told0 qg14 ql14) (below_then HD13.out.2 hb14))
  clear qg14 ql14 hb14 HD13
  refine ⟨(.agg #[.bool qb14, .slice qA14 qs14.length qc14]), rfl, hK _ _ (HD14.out.1.tail.tail.tail.tail.tail.cells) (fun hH14 => ?_)⟩
  clear hK K hH13
  change wpAnyH _ _ _ _ _ _ _ (Act.put _ (some 69) _) _
  simp only [Act.put, List.setIfInBounds_toArray, List.set_cons_zero, List.set_cons_succ]
  refine wpAnyH_ready (rs := [27]) (by kernel_rfl) (by simp) ?_
  refine AllReadyH.cons rfl (fun K hK0 => ?d28) (AllReadyH.nil)
  have hK := hK0.out
  clear hK0
  rw [if_pos (by kernel_rfl)]
  refine wp_go_call 39 #[(.agg #[.bool rb1, .slice rA1 rs1.length rc1]), (.agg #[.bool rb2, .slice rA2 rs2.length rc2])] (fun _ => by kernel_rfl) ((ha.out.qs _ _ _ ((HD14.out.1 11 _ rfl).at_) ((HD14.out.1 9 _ rfl).at_)).mono ?_)
  rintro e wq15 ⟨qv15, rfl, ⟨qb15, qA15, qc15, qs15, rfl, qg15, ql15⟩, hb15⟩
  have HD15 := Lib.hid (And.intro ((HD14.out.1.step hb15 rfl).told1 qg15 ql15) (below_then HD14.out.2 hb15))
  clear qg15 ql15 hb15 HD14
  refine ⟨(.agg #[.bool qb15, .slice qA15 qs15.length qc15]), rfl, hK _ _ (HD15.out.1.tail.tail.tail.tail.tail.tail.cells) (fun hH15 => ?_)⟩
  clear hK K hH14
  change wpAnyH _ _ _ _ _ _ _ (Act.put _ (some 72) _) _
  simp only [Act.put, List.setIfInBounds_toArray, List.set_cons_zero, List.set_cons_succ]
  refine wpAnyH_ready (rs := [28]) (by kernel_rfl) (by simp) ?_
  refine AllReadyH.cons rfl (fun K hK0 => ?d29) (AllReadyH.nil)
  have hK := hK0.out
  clear hK0
  rw [if_pos (by kernel_rfl)]
  refine wp_go_call 21 #[(.agg #[.bool qb14, .slice qA14 qs14.length qc14]), (.agg #[.bool qb15, .slice qA15 qs15.length qc15])] (fun _ => by kernel_rfl) ((is_same _ _ s 40 _ ((HD15.out.1 1 _ rfl).at_) ((HD15.out.1 0 _ rfl).at_) (by decide) ha.out.fs).mono ?_)
  rintro e wq16 ⟨rfl, hb16⟩
  have HD16 := Lib.hid (And.intro (HD15.out.1.step hb16 rfl) (below_then HD15.out.2 hb16))
  clear hb16 HD15
  refine ⟨(.bool true), rfl, hK _ _ (HD16.out.1.tail.tail.tail.tail.tail.tail.cells) (fun hH16 => ?_)⟩
  clear hK K hH15
  change wpAnyH _ _ _ _ _ _ _ (Act.put _ (some 73) _) _
  simp only [Act.put, List.setIfInBounds_toArray, List.set_cons_zero, List.set_cons_succ]
  refine wpAnyH_take (i := 29) (v := (.bool true)) rfl (by kernel_rfl) (by kernel_rfl) (by kernel_rfl) (fun _ _ _ h => h) (Or.inl ⟨by kernel_rfl, fun _ _ => by kernel_rfl⟩) hH16 ?r30
  change wpAnyH _ _ _ _ _ _ _ (Act.put _ (some 74) _) _
  simp only [Act.put, List.setIfInBounds_toArray, List.set_cons_zero, List.set_cons_succ]
  refine wpAnyH_take (i := 30) (v := (.bool true)) rfl (by kernel_rfl) (by kernel_rfl) (by kernel_rfl) (fun _ _ _ h => h) (Or.inl ⟨by kernel_rfl, fun _ _ => by kernel_rfl⟩) hH16 ?r31
  change wpAnyH _ _ _ _ _ _ _ (Act.put _ (some 75) _) _
  simp only [Act.put, List.setIfInBounds_toArray, List.set_cons_zero, List.set_cons_succ]
  refine wpAnyH_take (i := 31) (v := (.agg #[.bool qb1, .slice qA1 qs1.length qc1])) rfl (by kernel_rfl) (by kernel_rfl) (by kernel_rfl) (fun _ _ _ h => h) (Or.inl ⟨by kernel_rfl, fun w0 hS0 => run_loadP (hS0 7 _ rfl rfl) (.tmp 5) (by kernel_rfl) (by kernel_rfl)⟩) hH16 ?r32
  change wpAnyH _ _ _ _ _ _ _ (Act.put _ (some 76) _) _
  simp only [Act.put, List.setIfInBounds_toArray, List.set_cons_zero, List.set_cons_succ]
  refine wpAnyH_take (i := 32) (v := (.agg #[.bool qb2, .slice qA2 qs2.length qc2])) rfl (by kernel_rfl) (by kernel_rfl) (by kernel_rfl) (fun _ _ _ h => h) (Or.inl ⟨by kernel_rfl, fun w0 hS0 => run_loadP (hS0 5 _ rfl rfl) (.tmp 7) (by kernel_rfl) (by kernel_rfl)⟩) hH16 ?r33
  change wpAnyH _ _ _ _ _ _ _ (Act.put _ (some 77) _) _
  simp only [Act.put, List.setIfInBounds_toArray, List.set_cons_zero, List.set_cons_succ]
  refine wpAnyH_take (i := 34) (v := (.agg #[.bool rb1, .slice rA1 rs1.length rc1])) rfl (by kernel_rfl) (by kernel_rfl) (by kernel_rfl) (fun _ _ _ h => h) (Or.inl ⟨by kernel_rfl, fun w0 hS0 => run_load (hS0 6 _ rfl rfl) (.tmp 6) (by kernel_rfl) (by kernel_rfl)⟩) hH16 ?r34
  change wpAnyH _ _ _ _ _ _ _ (Act.put _ (some 79) _) _
  simp only [Act.put, List.setIfInBounds_toArray, List.set_cons_zero, List.set_cons_succ]
  refine wpAnyH_take (i := 35) (v := (.agg #[.bool rb2, .slice rA2 rs2.length rc2])) rfl (by kernel_rfl) (by kernel_rfl) (by kernel_rfl) (fun _ _ _ h => h) (Or.inl ⟨by kernel_rfl, fun w0 hS0 => run_load (hS0 4 _ rfl rfl) (.tmp 8) (by kernel_rfl) (by kernel_rfl)⟩) hH16 ?r35
  change wpAnyH _ _ _ _ _ _ _ (Act.put _ (some 80) _) _
  simp only [Act.put, List.setIfInBounds_toArray, List.set_cons_zero, List.set_cons_succ]
  refine wpAnyH_ready (rs := [33]) (by kernel_rfl) (by simp) ?_
  refine AllReadyH.cons rfl (fun K hK0 => ?d36) (AllReadyH.nil)
  have hK := hK0.out
  clear hK0
  rw [if_pos (by kernel_rfl)]
  refine wp_go_call 40 #[(.agg #[.bool qb1, .slice qA1 qs1.length qc1]), (.agg #[.bool qb2, .slice qA2 qs2.length qc2])] (fun _ => by kernel_rfl) ((ha.out.pm _ _ _ ((HD16.out.1 13 _ rfl).at_) ((HD16.out.1 11 _ rfl).at_)).mono ?_)
  rintro e wq17 ⟨qv17, rfl, ⟨qb17, qA17, qc17, qs17, rfl, qg17, ql17⟩, hb17⟩
  have HD17 := Lib.hid (And.intro ((HD16.out.1.step hb17 rfl).told0 qg17 ql17) (below_then HD16.out.2 hb17))
  clear qg17 ql17 hb17 HD16
  refine ⟨(.agg #[.bool qb17, .slice qA17 qs17.length qc17]), rfl, hK _ _ (HD17.out.1.tail.tail.tail.tail.tail.tail.tail.cells) (fun hH17 => ?_)⟩
  clear hK K hH16
  change wpAnyH _ _ _ _ _ _ _ (Act.put _ (some 78) _) _
  simp only [Act.put, List.setIfInBounds_toArray, List.set_cons_zero, List.set_cons_succ]
  refine wpAnyH_ready (rs := [36]) (by kernel_rfl) (by simp) ?_
  refine AllReadyH.cons rfl (fun K hK0 => ?d37) (AllReadyH.nil)
  have hK := hK0.out
  clear hK0
  rw [if_pos (by kernel_rfl)]
  refine wp_go_call 41 #[(.agg #[.bool rb1, .slice rA1 rs1.length rc1]), (.agg #[.bool rb2, .slice rA2 rs2.length rc2])] (fun _ => by kernel_rfl) ((ha.out.qm _ _ _ ((HD17.out.1 13 _ rfl).at_) ((HD17.out.1 11 _ rfl).at_)).mono ?_)
  rintro e wq18 ⟨qv18, rfl, ⟨qb18, qA18, qc18, qs18, rfl, qg18, ql18⟩, hb18⟩
  have HD18 := Lib.hid (And.intro ((HD17.out.1.step hb18 rfl).told1 qg18 ql18) (below_then HD17.out.2 hb18))
  clear qg18 ql18 hb18 HD17
  refine ⟨(.agg #[.bool qb18, .slice qA18 qs18.length qc18]), rfl, hK _ _ (HD18.out.1.tail.tail.tail.tail.tail.tail.tail.tail.cells) (fun hH18 => ?_)⟩
  clear hK K hH17
  change wpAnyH _ _ _ _ _ _ _ (Act.put _ (some 81) _) _
  simp only [Act.put, List.setIfInBounds_toArray, List.set_cons_zero, List.set_cons_succ]
  refine wpAnyH_ready (rs := [37]) (by kernel_rfl) (by simp) ?_
  refine AllReadyH.cons rfl (fun K hK0 => ?d38) (AllReadyH.nil)
  have hK := hK0.out
  clear hK0
  rw [if_pos (by kernel_rfl)]
  refine wp_go_call 21 #[(.agg #[.bool qb17, .slice qA17 qs17.length qc17]), (.agg #[.bool qb18, .slice qA18 qs18.length qc18])] (fun _ => by kernel_rfl) ((is_same _ _ m 40 _ ((HD18.out.1 1 _ rfl).at_) ((HD18.out.1 0 _ rfl).at_) (by decide) ha.out.fm).mono ?_)
  rintro e wq19 ⟨rfl, hb19⟩
  have HD19 := Lib.hid (And.intro (HD18.out.1.step hb19 rfl) (below_then HD18.out.2 hb19))
  clear hb19 HD18
  refine ⟨(.bool true), rfl, hK _ _ (HD19.out.1.tail.tail.tail.tail.tail.tail.tail.tail.cells) (fun hH19 => ?_)⟩
  clear hK K hH18
  change wpAnyH _ _ _ _ _ _ _ (Act.put _ (some 82) _) _
  simp only [Act.put, List.setIfInBounds_toArray, List.set_cons_zero, List.set_cons_succ]
  refine wpAnyH_take (i := 38) (v := (.bool true)) rfl (by kernel_rfl) (by kernel_rfl) (by kernel_rfl) (fun _ _ _ h => h) (Or.inl ⟨by kernel_rfl, fun _ _ => by kernel_rfl⟩) hH19 ?r39
  change wpAnyH _ _ _ _ _ _ _ (Act.put _ (some 83) _) _
  simp only [Act.put, List.setIfInBounds_toArray, List.set_cons_zero, List.set_cons_succ]
  refine wpAnyH_take (i := 39) (v := (.bool true)) rfl (by kernel_rfl) (by kernel_rfl) (by kernel_rfl) (fun _ _ _ h => h) (Or.inl ⟨by kernel_rfl, fun _ _ => by kernel_rfl⟩) hH19 ?r40
  change wpAnyH _ _ _ _ _ _ _ (Act.put _ (some 84) _) _
  simp only [Act.put, List.setIfInBounds_toArray, List.set_cons_zero, List.set_cons_succ]
  refine wpAnyH_take (i := 40) (v := (.agg #[.bool qb1, .slice qA1 qs1.length qc1])) rfl (by kernel_rfl) (by kernel_rfl) (by kernel_rfl) (fun _ _ _ h => h) (Or.inl ⟨by kernel_rfl, fun w0 hS0 => run_loadP (hS0 7 _ rfl rfl) (.tmp 5) (by kernel_rfl) (by kernel_rfl)⟩) hH19 ?r41
  change wpAnyH _ _ _ _ _ _ _ (Act.put _ (some 85) _) _
  simp only [Act.put, List.setIfInBounds_toArray, List.set_cons_zero, List.set_cons_succ]
  refine wpAnyH_take (i := 41) (v := (.agg #[.bool qb2, .slice qA2 qs2.length qc2])) rfl (by kernel_rfl) (by kernel_rfl) (by kernel_rfl) (fun _ _ _ h => h) (Or.inl ⟨by kernel_rfl, fun w0 hS0 => run_loadP (hS0 5 _ rfl rfl) (.tmp 7) (by kernel_rfl) (by kernel_rfl)⟩) hH19 ?r42
  change wpAnyH _ _ _ _ _ _ _ (Act.put _ (some 86) _) _
  simp only [Act.put, List.setIfInBounds_toArray, List.set_cons_zero, List.set_cons_succ]
  refine wpAnyH_take (i := 43) (v := (.agg #[.bool rb1, .slice rA1 rs1.length rc1])) rfl (by kernel_rfl) (by kernel_rfl) (by kernel_rfl) (fun _ _ _ h => h) (Or.inl ⟨by kernel_rfl, fun w0 hS0 => run_load (hS0 6 _ rfl rfl) (.tmp 6) (by kernel_rfl) (by kernel_rfl)⟩) hH19 ?r43
  change wpAnyH _ _ _ _ _ _ _ (Act.put _ (some 88) _) _
  simp only [Act.put, List.setIfInBounds_toArray, List.set_cons_zero, List.set_cons_succ]
  refine wpAnyH_take (i := 44) (v := (.agg #[.bool rb2, .slice rA2 rs2.length rc2])) rfl (by kernel_rfl) (by kernel_rfl) (by kernel_rfl) (fun _ _ _ h => h) (Or.inl ⟨by kernel_rfl, fun w0 hS0 => run_load (hS0 4 _ rfl rfl) (.tmp 8) (by kernel_rfl) (by kernel_rfl)⟩) hH19 ?r44
  change wpAnyH _ _ _ _ _ _ _ (Act.put _ (some 89) _) _
  simp only [Act.put, List.setIfInBounds_toArray, List.set_cons_zero, List.set_cons_succ]
  refine wpAnyH_ready (rs := [42]) (by kernel_rfl) (by simp) ?_
  refine AllReadyH.cons rfl (fun K hK0 => ?d45) (AllReadyH.nil)
  have hK := hK0.out
  clear hK0
  rw [if_pos (by kernel_rfl)]
  refine wp_go_call 42 #[(.agg #[.bool qb1, .slice qA1 qs1.length qc1]), (.agg #[.bool qb2, .slice qA2 qs2.length qc2])] (fun _ => by kernel_rfl) ((ha.out.pp _ _ _ ((HD19.out.1 15 _ rfl).at_) ((HD19.out.1 13 _ rfl).at_)).mono ?_)
  rintro e wq20 ⟨qv20, rfl, ⟨qb20, qA20, qc20, qs20, rfl, qg20, ql20⟩, hb20⟩
  have HD20 := Lib.hid (And.intro ((HD19.out.1.step hb20 rfl).told0 qg20 ql20) (below_then HD19.out.2 hb20))
  clear qg20 ql20 hb20 HD19
  refine ⟨(.agg #[.bool qb20, .slice qA20 qs20.length qc20]), rfl, hK _ _ (HD20.out.1.tail.tail.tail.tail.tail.tail.tail.tail.tail.cells) (fun hH20 => ?_)⟩
  clear hK K hH19
  change wpAnyH _ _ _ _ _ _ _ (Act.put _ (some 87) _) _
  simp only [Act.put, List.setIfInBounds_toArray, List.set_cons_zero, List.set_cons_succ]
  refine wpAnyH_ready (rs := [45]) (by kernel_rfl) (by simp) ?_
  refine AllReadyH.cons rfl (fun K hK0 => ?d46) (AllReadyH.nil)
  have hK := hK0.out
  clear hK0
  rw [if_pos (by kernel_rfl)]
  refine wp_go_call 43 #[(.agg #[.bool rb1, .slice rA1 rs1.length rc1]), (.agg #[.bool rb2, .slice rA2 rs2.length rc2])] (fun _ => by kernel_rfl) ((ha.out.qp _ _ _ ((HD20.out.1 15 _ rfl).at_) ((HD20.out.1 13 _ rfl).at_)).mono ?_)
  rintro e wq21 ⟨qv21, rfl, ⟨qb21, qA21, qc21, qs21, rfl, qg21, ql21⟩, hb21⟩
  have HD21 := Lib.hid (And.intro ((HD20.out.1.step hb21 rfl).told1 qg21 ql21) (below_then HD20.out.2 hb21))
  clear qg21 ql21 hb21 HD20
  refine ⟨(.agg #[.bool qb21, .slice qA21 qs21.length qc21]), rfl, hK _ _ (HD21.out.1.tail.tail.tail.tail.tail.tail.tail.tail.tail.tail.cells) (fun hH21 => ?_)⟩
  clear hK K hH20
  change wpAnyH _ _ _ _ _ _ _ (Act.put _ (some 90) _) _
  simp only [Act.put, List.setIfInBounds_toArray, List.set_cons_zero, List.set_cons_succ]
  refine wpAnyH_ready (rs := [46]) (by kernel_rfl) (by simp) ?_
  refine AllReadyH.cons rfl (fun K hK0 => ?d47) (AllReadyH.nil)
  have hK := hK0.out
  clear hK0
  rw [if_pos (by kernel_rfl)]
  refine wp_go_call 21 #[(.agg #[.bool qb20, .slice qA20 qs20.length qc20]), (.agg #[.bool qb21, .slice qA21 qs21.length qc21])] (fun _ => by kernel_rfl) ((is_same _ _ p 40 _ ((HD21.out.1 1 _ rfl).at_) ((HD21.out.1 0 _ rfl).at_) (by decide) ha.out.fp).mono ?_)
  rintro e wq22 ⟨rfl, hb22⟩
  have HD22 := Lib.hid (And.intro (HD21.out.1.step hb22 rfl) (below_then HD21.out.2 hb22))
  clear hb22 HD21
  refine ⟨(.bool true), rfl, hK _ _ (HD22.out.1.tail.tail.tail.tail.tail.tail.tail.tail.tail.tail.cells) (fun hH22 => ?_)⟩
  clear hK K hH21
  change wpAnyH _ _ _ _ _ _ _ (Act.put _ (some 91) _) _
  simp only [Act.put, List.setIfInBounds_toArray, List.set_cons_zero, List.set_cons_succ]
  refine wpAnyH_take (i := 47) (v := (.bool true)) rfl (by kernel_rfl) (by kernel_rfl) (by kernel_rfl) (fun _ _ _ h => h) (Or.inl ⟨by kernel_rfl, fun _ _ => by kernel_rfl⟩) hH22 ?r48
  change wpAnyH _ _ _ _ _ _ _ (Act.put _ (some 92) _) _
  simp only [Act.put, List.setIfInBounds_toArray, List.set_cons_zero, List.set_cons_succ]
  refine wpAnyH_take (i := 48) (v := (.bool true)) rfl (by kernel_rfl) (by kernel_rfl) (by kernel_rfl) (fun _ _ _ h => h) (Or.inl ⟨by kernel_rfl, fun _ _ => by kernel_rfl⟩) hH22 ?r49
  change wpAnyH _ _ _ _ _ _ _ (Act.put _ (some 93) _) _
  simp only [Act.put, List.setIfInBounds_toArray, List.set_cons_zero, List.set_cons_succ]
  refine wpAnyH_take (i := 49) (v := (.int .i64 er)) rfl (by kernel_rfl) (by kernel_rfl) (by kernel_rfl) (fun _ _ _ h => h) (Or.inl ⟨by kernel_rfl, fun _ _ => by kernel_rfl⟩) hH22 ?r50
  change wpAnyH _ _ _ _ _ _ _ (Act.put _ (some 94) _) _
  simp only [Act.put, List.setIfInBounds_toArray, List.set_cons_zero, List.set_cons_succ]
  refine wpAnyH_take (i := 50) (v := (.int .i64 er)) rfl (by kernel_rfl) (by kernel_rfl) (by kernel_rfl) (fun _ _ _ h => h) (Or.inl ⟨by kernel_rfl, fun _ _ => by kernel_rfl⟩) hH22 ?r51
  change wpAnyH _ _ _ _ _ _ _ (Act.put _ (some 95) _) _
  simp only [Act.put, List.setIfInBounds_toArray, List.set_cons_zero, List.set_cons_succ]
  refine wpAnyH_take (i := 51) (v := (.bool true)) rfl (by kernel_rfl) (by kernel_rfl) (by kernel_rfl) (fun _ _ _ h => h) (Or.inl ⟨by kernel_rfl, fun w0 hS0 => by go_simp⟩) hH22 ?r52
  change wpAnyH _ _ _ _ _ _ _ (Act.put _ (some 96) _) _
  simp only [Act.put, List.setIfInBounds_toArray, List.set_cons_zero, List.set_cons_succ]
  refine wpAnyH_take (i := 52) (v := (.bool true)) rfl (by kernel_rfl) (by kernel_rfl) (by kernel_rfl) (fun _ _ _ h => h) (Or.inl ⟨by kernel_rfl, fun _ _ => by kernel_rfl⟩) hH22 ?r53
  change wpAnyH _ _ _ _ _ _ _ (Act.put _ (some 97) _) _
  simp only [Act.put, List.setIfInBounds_toArray, List.set_cons_zero, List.set_cons_succ]
  refine wpAnyH_take (i := 53) (v := (.bool true)) rfl (by kernel_rfl) (by kernel_rfl) (by kernel_rfl) (fun _ _ _ h => h) (Or.inl ⟨by kernel_rfl, fun _ _ => by kernel_rfl⟩) hH22 ?r54
  change wpAnyH _ _ _ _ _ _ _ (Act.put _ (some 98) _) _
  simp only [Act.put, List.setIfInBounds_toArray, List.set_cons_zero, List.set_cons_succ]
  refine wpAnyH_take (i := 54) (v := (.agg #[.bool qb3, .slice qA3 qs3.length qc3])) rfl (by kernel_rfl) (by kernel_rfl) (by kernel_rfl) (fun _ _ _ h => h) (Or.inl ⟨by kernel_rfl, fun w0 hS0 => run_loadP (hS0 3 _ rfl rfl) (.tmp 9) (by kernel_rfl) (by kernel_rfl)⟩) hH22 ?r55
  change wpAnyH _ _ _ _ _ _ _ (Act.put _ (some 99) _) _
  simp only [Act.put, List.setIfInBounds_toArray, List.set_cons_zero, List.set_cons_succ]
  refine wpAnyH_take (i := 55) (v := (.agg #[.bool qb4, .slice qA4 qs4.length qc4])) rfl (by kernel_rfl) (by kernel_rfl) (by kernel_rfl) (fun _ _ _ h => h) (Or.inl ⟨by kernel_rfl, fun w0 hS0 => run_load (hS0 1 _ rfl rfl) (.tmp 12) (by kernel_rfl) (by kernel_rfl)⟩) hH22 ?r56
  change wpAnyH _ _ _ _ _ _ _ (Act.put _ (some 100) _) _
  simp only [Act.put, List.setIfInBounds_toArray, List.set_cons_zero, List.set_cons_succ]
  refine wpAnyH_ready (rs := [56]) (by kernel_rfl) (by simp) ?_
  refine AllReadyH.cons rfl (fun K hK0 => ?d57) (AllReadyH.nil)
  have hK := hK0.out
  clear hK0
  rw [if_pos (by kernel_rfl)]
  refine wp_go_call 21 #[(.agg #[.bool qb3, .slice qA3 qs3.length qc3]), (.agg #[.bool qb4, .slice qA4 qs4.length qc4])] (fun _ => by kernel_rfl) ((is_same _ _ q 40 _ ((HD22.out.1 13 _ rfl).at_) ((HD22.out.1 11 _ rfl).at_) (by decide) ha.out.fq).mono ?_)
  rintro e wq23 ⟨rfl, hb23⟩
  have HD23 := Lib.hid (And.intro (HD22.out.1.step hb23 rfl) (below_then HD22.out.2 hb23))
  clear hb23 HD22
  refine ⟨(.bool true), rfl, hK _ _ (HD23.out.1.tail.tail.tail.tail.tail.tail.tail.tail.tail.tail.cells) (fun hH23 => ?_)⟩
  clear hK K hH22
  change wpAnyH _ _ _ _ _ _ _ (Act.put _ (some 101) _) _
  simp only [Act.put, List.setIfInBounds_toArray, List.set_cons_zero, List.set_cons_succ]
  refine wpAnyH_take (i := 57) (v := (.bool true)) rfl (by kernel_rfl) (by kernel_rfl) (by kernel_rfl) (fun _ _ _ h => h) (Or.inl ⟨by kernel_rfl, fun _ _ => by kernel_rfl⟩) hH23 ?r58
  change wpAnyH _ _ _ _ _ _ _ (Act.put _ (some 102) _) _
  simp only [Act.put, List.setIfInBounds_toArray, List.set_cons_zero, List.set_cons_succ]
  refine wpAnyH_take (i := 58) (v := (.bool true)) rfl (by kernel_rfl) (by kernel_rfl) (by kernel_rfl) (fun _ _ _ h => h) (Or.inl ⟨by kernel_rfl, fun _ _ => by kernel_rfl⟩) hH23 ?r59
  change wpAnyH _ _ _ _ _ _ _ (Act.put _ (some 103) _) _
  simp only [Act.put, List.setIfInBounds_toArray, List.set_cons_zero, List.set_cons_succ]
  refine wpAnyH_take (i := 59) (v := (.agg #[.bool rb3, .slice rA3 rs3.length rc3])) rfl (by kernel_rfl) (by kernel_rfl) (by kernel_rfl) (fun _ _ _ h => h) (Or.inl ⟨by kernel_rfl, fun w0 hS0 => run_loadP (hS0 2 _ rfl rfl) (.tmp 10) (by kernel_rfl) (by kernel_rfl)⟩) hH23 ?r60
  change wpAnyH _ _ _ _ _ _ _ (Act.put _ (some 104) _) _
  simp only [Act.put, List.setIfInBounds_toArray, List.set_cons_zero, List.set_cons_succ]
  refine wpAnyH_take (i := 60) (v := (.agg #[.bool rb4, .slice rA4 rs4.length rc4])) rfl (by kernel_rfl) (by kernel_rfl) (by kernel_rfl) (fun _ _ _ h => h) (Or.inl ⟨by kernel_rfl, fun w0 hS0 => run_load (hS0 0 _ rfl rfl) (.tmp 13) (by kernel_rfl) (by kernel_rfl)⟩) hH23 ?r61
  change wpAnyH _ _ _ _ _ _ _ (Act.put _ (some 105) _) _
  simp only [Act.put, List.setIfInBounds_toArray, List.set_cons_zero, List.set_cons_succ]
  refine wpAnyH_ready (rs := [61]) (by kernel_rfl) (by simp) ?_
  refine AllReadyH.cons rfl (fun K hK0 => ?d62) (AllReadyH.nil)
  have hK := hK0.out
  clear hK0
  rw [if_pos (by kernel_rfl)]
  refine wp_go_call 21 #[(.agg #[.bool rb3, .slice rA3 rs3.length rc3]), (.agg #[.bool rb4, .slice rA4 rs4.length rc4])] (fun _ => by kernel_rfl) ((is_same _ _ r 40 _ ((HD23.out.1 12 _ rfl).at_) ((HD23.out.1 10 _ rfl).at_) (by decide) ha.out.fr).mono ?_)
  rintro e wq24 ⟨rfl, hb24⟩
  have HD24 := Lib.hid (And.intro (HD23.out.1.step hb24 rfl) (below_then HD23.out.2 hb24))
  clear hb24 HD23
  refine ⟨(.bool true), rfl, hK _ _ (HD24.out.1.tail.tail.tail.tail.tail.tail.tail.tail.tail.tail.cells) (fun hH24 => ?_)⟩
  clear hK K hH23
  change wpAnyH _ _ _ _ _ _ _ (Act.put _ (some 106) _) _
  simp only [Act.put, List.setIfInBounds_toArray, List.set_cons_zero, List.set_cons_succ]
  refine wpAnyH_take (i := 62) (v := (.bool true)) rfl (by kernel_rfl) (by kernel_rfl) (by kernel_rfl) (fun _ _ _ h => h) (Or.inl ⟨by kernel_rfl, fun _ _ => by kernel_rfl⟩) hH24 ?r63
  change wpAnyH _ _ _ _ _ _ _ (Act.put _ (some 107) _) _
  simp only [Act.put, List.setIfInBounds_toArray, List.set_cons_zero, List.set_cons_succ]
  refine wpAnyH_take (i := 63) (v := (.bool true)) rfl (by kernel_rfl) (by kernel_rfl) (by kernel_rfl) (fun _ _ _ h => h) (Or.inl ⟨by kernel_rfl, fun _ _ => by kernel_rfl⟩) hH24 ?r64
  change wpAnyH _ _ _ _ _ _ _ (Act.put _ (some 108) _) _
  simp only [Act.put, List.setIfInBounds_toArray, List.set_cons_zero, List.set_cons_succ]
  refine wpAnyH_take (i := 64) (v := (.agg #[.bool qb1, .slice qA1 qs1.length qc1])) rfl (by kernel_rfl) (by kernel_rfl) (by kernel_rfl) (fun _ _ _ h => h) (Or.inl ⟨by kernel_rfl, fun w0 hS0 => run_loadP (hS0 7 _ rfl rfl) (.tmp 5) (by kernel_rfl) (by kernel_rfl)⟩) hH24 ?r65
  change wpAnyH _ _ _ _ _ _ _ (Act.put _ (some 109) _) _
  simp only [Act.put, List.setIfInBounds_toArray, List.set_cons_zero, List.set_cons_succ]
  refine wpAnyH_take (i := 65) (v := (.agg #[.bool qb2, .slice qA2 qs2.length qc2])) rfl (by kernel_rfl) (by kernel_rfl) (by kernel_rfl) (fun _ _ _ h => h) (Or.inl ⟨by kernel_rfl, fun w0 hS0 => run_loadP (hS0 5 _ rfl rfl) (.tmp 7) (by kernel_rfl) (by kernel_rfl)⟩) hH24 ?r66
  change wpAnyH _ _ _ _ _ _ _ (Act.put _ (some 110) _) _
  simp only [Act.put, List.setIfInBounds_toArray, List.set_cons_zero, List.set_cons_succ]
  refine wpAnyH_take (i := 67) (v := (.agg #[.bool rb1, .slice rA1 rs1.length rc1])) rfl (by kernel_rfl) (by kernel_rfl) (by kernel_rfl) (fun _ _ _ h => h) (Or.inl ⟨by kernel_rfl, fun w0 hS0 => run_load (hS0 6 _ rfl rfl) (.tmp 6) (by kernel_rfl) (by kernel_rfl)⟩) hH24 ?r67
  change wpAnyH _ _ _ _ _ _ _ (Act.put _ (some 112) _) _
  simp only [Act.put, List.setIfInBounds_toArray, List.set_cons_zero, List.set_cons_succ]
  refine wpAnyH_take (i := 68) (v := (.agg #[.bool rb2, .slice rA2 rs2.length rc2])) rfl (by kernel_rfl) (by kernel_rfl) (by kernel_rfl) (fun _ _ _ h => h) (Or.inl ⟨by kernel_rfl, fun w0 hS0 => run_load (hS0 4 _ rfl rfl) (.tmp 8) (by kernel_rfl) (by kernel_rfl)⟩) hH24 ?r68
  change wpAnyH _ _ _ _ _ _ _ (Act.put _ (some 113) _) _
  simp only [Act.put, List.setIfInBounds_toArray, List.set_cons_zero, List.set_cons_succ]
  refine wpAnyH_ready (rs := [66]) (by kernel_rfl) (by simp) ?_
  refine AllReadyH.cons rfl (fun K hK0 => ?d69) (AllReadyH.nil)
  have hK := hK0.out
  clear hK0
  rw [if_pos (by kernel_rfl)]
  refine wp_go_call 44 #[(.agg #[.bool qb1, .slice qA1 qs1.length qc1]), (.agg #[.bool qb2, .slice qA2 qs2.length qc2])] (fun _ => by kernel_rfl) ((ha.out.pg _ _ _ ((HD24.out.1 17 _ rfl).at_) ((HD24.out.1 15 _ rfl).at_)).mono ?_)
  rintro e wq25 ⟨qv25, rfl, ⟨qb25, qA25, qc25, qs25, rfl, qg25, ql25⟩, hb25⟩
  have HD25 := Lib.hid (And.intro ((HD24.out.1.step hb25 rfl).told0 qg25 ql25) (below_then HD24.out.2 hb25))
  clear qg25 ql25 hb25 HD24
  refine ⟨(.agg #[.bool qb25, .slice qA25 qs25.length qc25]), rfl, hK _ _ (HD25.out.1.tail.tail.tail.tail.tail.tail.tail.tail.tail.tail.tail.cells) (fun hH25 => ?_)⟩
  clear hK K hH24
  change wpAnyH _ _ _ _ _ _ _ (Act.put _ (some 111) _) _
  simp only [Act.put, List.setIfInBounds_toArray, List.set_cons_zero, List.set_cons_succ]
  refine wpAnyH_ready (rs := [69]) (by kernel_rfl) (by simp) ?_
  refine AllReadyH.cons rfl (fun K hK0 => ?d70) (AllReadyH.nil)
  have hK := hK0.out
  clear hK0
  rw [if_pos (by kernel_rfl)]
  refine wp_go_call 45 #[(.agg #[.bool rb1, .slice rA1 rs1.length rc1]), (.agg #[.bool rb2, .slice rA2 rs2.length rc2])] (fun _ => by kernel_rfl) ((ha.out.qg _ _ _ ((HD25.out.1 17 _ rfl).at_) ((HD25.out.1 15 _ rfl).at_)).mono ?_)
  rintro e wq26 ⟨qv26, rfl, ⟨qb26, qA26, qc26, qs26, rfl, qg26, ql26⟩, hb26⟩
  have HD26 := Lib.hid (And.intro ((HD25.out.1.step hb26 rfl).told1 qg26 ql26) (below_then HD25.out.2 hb26))
  clear qg26 ql26 hb26 HD25
  refine ⟨(.agg #[.bool qb26, .slice qA26 qs26.length qc26]), rfl, hK _ _ (HD26.out.1.tail.tail.tail.tail.tail.tail.tail.tail.tail.tail.tail.tail.cells) (fun hH26 => ?_)⟩
  clear hK K hH25
  change wpAnyH _ _ _ _ _ _ _ (Act.put _ (some 114) _) _
  simp only [Act.put, List.setIfInBounds_toArray, List.set_cons_zero, List.set_cons_succ]
  refine wpAnyH_ready (rs := [70]) (by kernel_rfl) (by simp) ?_
  refine AllReadyH.cons rfl (fun K hK0 => ?d71) (AllReadyH.nil)
  have hK := hK0.out
  clear hK0
  rw [if_pos (by kernel_rfl)]
  refine wp_go_call 21 #[(.agg #[.bool qb25, .slice qA25 qs25.length qc25]), (.agg #[.bool qb26, .slice qA26 qs26.length qc26])] (fun _ => by kernel_rfl) ((is_same _ _ g 40 _ ((HD26.out.1 1 _ rfl).at_) ((HD26.out.1 0 _ rfl).at_) (by decide) ha.out.fg).mono ?_)
  rintro e wq27 ⟨rfl, hb27⟩
  have HD27 := Lib.hid (And.intro (HD26.out.1.step hb27 rfl) (below_then HD26.out.2 hb27))
  clear hb27 HD26
  refine ⟨(.bool true), rfl, hK _ _ (HD27.out.1.tail.tail.tail.tail.tail.tail.tail.tail.tail.tail.tail.tail.cells) (fun hH27 => ?_)⟩
  clear hK K hH26
  change wpAnyH _ _ _ _ _ _ _ (Act.put _ (some 115) _) _
  simp only [Act.put, List.setIfInBounds_toArray, List.set_cons_zero, List.set_cons_succ]
  refine wpAnyH_take (i := 71) (v := (.bool true)) rfl (by kernel_rfl) (by kernel_rfl) (by kernel_rfl) (fun _ _ _ h => h) (Or.inl ⟨by kernel_rfl, fun _ _ => by kernel_rfl⟩) hH27 ?r72
  change wpAnyH _ _ _ _ _ _ _ (Act.put _ (some 116) _) _
  simp only [Act.put, List.setIfInBounds_toArray, List.set_cons_zero, List.set_cons_succ]
  refine wpAnyH_take (i := 72) (v := (.bool true)) rfl (by kernel_rfl) (by kernel_rfl) (by kernel_rfl) (fun _ _ _ h => h) (Or.inl ⟨by kernel_rfl, fun _ _ => by kernel_rfl⟩) hH27 ?r73
  change wpAnyH _ _ _ _ _ _ _ (Act.put _ (some 117) _) _
  simp only [Act.put, List.setIfInBounds_toArray, List.set_cons_zero, List.set_cons_succ]
  refine wpAnyH_ready (rs := [73]) (by kernel_rfl) (by simp) ?_
  refine AllReadyH.cons rfl (fun K hK0 => ?d74) (AllReadyH.nil)
  have hK := hK0.out
  clear hK0
  rw [if_pos (by kernel_rfl)]
  refine wp_go_call 15 #[] (fun _ => by kernel_rfl) ((awake_any _).mono ?_)
  rintro e wq28 ⟨rfl, hb28⟩
  have HD28 := Lib.hid (And.intro (HD27.out.1.step hb28 rfl) (below_then HD27.out.2 hb28))
  clear hb28 HD27
  refine ⟨(.bool true), rfl, hK _ _ (HD28.out.1.tail.tail.tail.tail.tail.tail.tail.tail.tail.tail.tail.tail.cells) (fun hH28 => ?_)⟩
  clear hK K hH27
  change wpAnyH _ _ _ _ _ _ _ (Act.put _ (some 118) _) _
  simp only [Act.put, List.setIfInBounds_toArray, List.set_cons_zero, List.set_cons_succ]
  refine wpAnyH_take (i := 74) (v := (.bool true)) rfl (by kernel_rfl) (by kernel_rfl) (by kernel_rfl) (fun _ _ _ h => h) (Or.inl ⟨by kernel_rfl, fun _ _ => by kernel_rfl⟩) hH28 ?r75
  change wpAnyH _ _ _ _ _ _ _ (Act.put _ (some 119) _) _
  simp only [Act.put, List.setIfInBounds_toArray, List.set_cons_zero, List.set_cons_succ]
  refine wpAnyH_take (i := 75) (v := (.bool true)) rfl (by kernel_rfl) (by kernel_rfl) (by kernel_rfl) (fun _ _ _ h => h) (Or.inl ⟨by kernel_rfl, fun _ _ => by kernel_rfl⟩) hH28 ?r76
  change wpAnyH _ _ _ _ _ _ _ (Act.put _ (some 4) _) _
  simp only [Act.put, List.setIfInBounds_toArray, List.set_cons_zero, List.set_cons_succ]
  refine wpAnyH_done (by kernel_rfl) ?_ _
  go_wp2
  go_ret
  exact ⟨rfl, HD28.out.2⟩
end Go.Proofs.Ytagocllbfbbneaa.RK
