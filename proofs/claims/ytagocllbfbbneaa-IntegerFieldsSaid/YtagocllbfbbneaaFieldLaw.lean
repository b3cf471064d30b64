/- The law IntegerFields: it answers true. -/
import Derived.Test.YtagocllbfbbneaaFieldBoth
namespace Go.Proofs.Ytagocllbfbbneaa.RK
open Go.RowKit
set_option linter.unusedSimpArgs false

/-- A number that the law leaves out. -/
def badN (v : Int) : Prop := 300 < v ∧ v ≤ 65536
instance (v : Int) : Decidable (badN v) := by unfold badN; infer_instance

set_option maxRecDepth 100000 in
set_option maxHeartbeats 8000000 in
theorem fields_short (n k p x y a ea b eb d ed : Int) (s1 : Bool) (A1 : Option Addr) (c1 : Nat) (xs1 : List Nat) (s2 : Bool) (A2 : Option Addr) (c2 : Nat) (xs2 : List Nat) (w : World)
    (h1 : NAt w (.agg #[.bool s1, .slice A1 xs1.length c1]) x) (h2 : NAt w (.agg #[.bool s2, .slice A2 xs2.length c2]) y) (l1 : xs1.length ≤ 8) (l2 : xs2.length ≤ 8)
    (g : Bool) (hg : decide (badN n ∨ badN k ∨ badN p) = g) (hs : Hid (ShiftB x n a ea)) (hf : Hid (FieldB x k p b eb)) (hdp : Hid (DepB x y k p d ed)) :
    Calls Try.prog 8 #[.agg #[.bool s1, .slice A1 xs1.length c1], .agg #[.bool s2, .slice A2 xs2.length c2], .int .i64 n, .int .i64 k, .int .i64 p] w fun e w' => IsBool w w' true e := by
  have hv0 := boxed2_vars w s1 s2 A1 A2 xs1 xs2 c1 c2 x y h1 h2
  have hb0 := boxed2_b w (.cells #[.bool s1, .slice A1 xs1.length c1] 24) (.cells #[.bool s2, .slice A2 xs2.length c2] 24)
  have hsz : ((w.alloc (.cells #[.bool s1, .slice A1 xs1.length c1] 24)).alloc (.cells #[.bool s2, .slice A2 xs2.length c2] 24)).heap.size = w.heap.size + 2 := by simp
  have sh := short2 8 s1 s2 A1 A2 xs1.length xs2.length c1 c2 ((w.alloc (.cells #[.bool s1, .slice A1 xs1.length c1] 24)).alloc (.cells #[.bool s2, .slice A2 xs2.length c2] 24)) true (decide_eq_true ⟨l1, l2⟩)
  rw [hsz] at sh
  have hv1 := hv0.alloc (.cells #[.bool s1, .slice A1 xs1.length c1, .bool s2, .slice A2 xs2.length c2] 24)
  have hb1 : Below w.heap.size w (((w.alloc (.cells #[.bool s1, .slice A1 xs1.length c1] 24)).alloc (.cells #[.bool s2, .slice A2 xs2.length c2] 24)).alloc (.cells #[.bool s1, .slice A1 xs1.length c1, .bool s2, .slice A2 xs2.length c2] 24)) := hb0.alloc (by simp; omega) _
  have H := Lib.hid sh
  have HC := Lib.hid (And.intro hv1 hb1)
  clear hv0 hb0 hsz sh h1 h2 l1 l2 hv1 hb1
  go_enter Try.func8, Try.ntmps8
  go_upto_region 1 with fail
  go_cut [55] (fun sl55 wx => sl55 = .bool g ∧ ∃ W : World, W = wx ∧ MVars W [⟨true, (w.heap.size + 1), s2, A2, xs2.length, c2, y, 2⟩, ⟨true, w.heap.size, s1, A1, xs1.length, c1, x, 2⟩] ∧ Below w.heap.size w W)
  case first => as_aux_lemma =>
    go_wp2_with fail
    refine H.out.mono ?_
    rintro e w1 ⟨rfl, hb1⟩
    have HD := Lib.hid (And.intro (HC.out.1.step hb1 rfl) (below_then HC.out.2 hb1))
    clear hb1
    by_cases hn3 : 300 < n
    · by_cases hn6 : n ≤ 65536
      · as_aux_lemma =>
          go_wp2
          go_meet
          exact ⟨congrArg Value.bool (by rw [← hg, decide_eq_true (show badN n ∨ badN k ∨ badN p from by unfold badN; omega)]; first | done | rfl | (simp; omega) | simp), _, rfl, HD.out.1, HD.out.2⟩
      · have hn7 : 65536 < n := by omega
        by_cases hk3 : 300 < k
        · by_cases hk6 : k ≤ 65536
          · as_aux_lemma =>
              go_wp2
              go_meet
              exact ⟨congrArg Value.bool (by rw [← hg, decide_eq_true (show badN n ∨ badN k ∨ badN p from by unfold badN; omega)]; first | done | rfl | (simp; omega) | simp), _, rfl, HD.out.1, HD.out.2⟩
          · have hk7 : 65536 < k := by omega
            by_cases hp3 : 300 < p
            · by_cases hp6 : p ≤ 65536
              · as_aux_lemma =>
                  go_wp2
                  go_meet
                  exact ⟨congrArg Value.bool (by rw [← hg, decide_eq_true (show badN n ∨ badN k ∨ badN p from by unfold badN; omega)]; first | done | rfl | (simp; omega) | simp), _, rfl, HD.out.1, HD.out.2⟩
              · have hp7 : 65536 < p := by omega
                go_wp2
                go_meet
                exact ⟨congrArg Value.bool (by rw [← hg, decide_eq_false (show ¬ (badN n ∨ badN k ∨ badN p) from by unfold badN; omega)]; first | done | rfl | (simp; omega) | simp), _, rfl, HD.out.1, HD.out.2⟩
            · have hp4 : p ≤ 300 := by omega
              go_wp2
              go_meet
              exact ⟨congrArg Value.bool (by rw [← hg, decide_eq_false (show ¬ (badN n ∨ badN k ∨ badN p) from by unfold badN; omega)]; first | done | rfl | (simp; omega) | simp), _, rfl, HD.out.1, HD.out.2⟩
        · have hk4 : k ≤ 300 := by omega
          by_cases hp3 : 300 < p
          · by_cases hp6 : p ≤ 65536
            · as_aux_lemma =>
                go_wp2
                go_meet
                exact ⟨congrArg Value.bool (by rw [← hg, decide_eq_true (show badN n ∨ badN k ∨ badN p from by unfold badN; omega)]; first | done | rfl | (simp; omega) | simp), _, rfl, HD.out.1, HD.out.2⟩
            · have hp7 : 65536 < p := by omega
              go_wp2
              go_meet
              exact ⟨congrArg Value.bool (by rw [← hg, decide_eq_false (show ¬ (badN n ∨ badN k ∨ badN p) from by unfold badN; omega)]; first | done | rfl | (simp; omega) | simp), _, rfl, HD.out.1, HD.out.2⟩
          · have hp4 : p ≤ 300 := by omega
            go_wp2
            go_meet
            exact ⟨congrArg Value.bool (by rw [← hg, decide_eq_false (show ¬ (badN n ∨ badN k ∨ badN p) from by unfold badN; omega)]; first | done | rfl | (simp; omega) | simp), _, rfl, HD.out.1, HD.out.2⟩
    · have hn4 : n ≤ 300 := by omega
      by_cases hk3 : 300 < k
      · by_cases hk6 : k ≤ 65536
        · as_aux_lemma =>
            go_wp2
            go_meet
            exact ⟨congrArg Value.bool (by rw [← hg, decide_eq_true (show badN n ∨ badN k ∨ badN p from by unfold badN; omega)]; first | done | rfl | (simp; omega) | simp), _, rfl, HD.out.1, HD.out.2⟩
        · have hk7 : 65536 < k := by omega
          by_cases hp3 : 300 < p
          · by_cases hp6 : p ≤ 65536
            · as_aux_lemma =>
                go_wp2
                go_meet
                exact ⟨congrArg Value.bool (by rw [← hg, decide_eq_true (show badN n ∨ badN k ∨ badN p from by unfold badN; omega)]; first | done | rfl | (simp; omega) | simp), _, rfl, HD.out.1, HD.out.2⟩
            · have hp7 : 65536 < p := by omega
              go_wp2
              go_meet
              exact ⟨congrArg Value.bool (by rw [← hg, decide_eq_false (show ¬ (badN n ∨ badN k ∨ badN p) from by unfold badN; omega)]; first | done | rfl | (simp; omega) | simp), _, rfl, HD.out.1, HD.out.2⟩
          · have hp4 : p ≤ 300 := by omega
            go_wp2
            go_meet
            exact ⟨congrArg Value.bool (by rw [← hg, decide_eq_false (show ¬ (badN n ∨ badN k ∨ badN p) from by unfold badN; omega)]; first | done | rfl | (simp; omega) | simp), _, rfl, HD.out.1, HD.out.2⟩
      · have hk4 : k ≤ 300 := by omega
        by_cases hp3 : 300 < p
        · by_cases hp6 : p ≤ 65536
          · as_aux_lemma =>
              go_wp2
              go_meet
              exact ⟨congrArg Value.bool (by rw [← hg, decide_eq_true (show badN n ∨ badN k ∨ badN p from by unfold badN; omega)]; first | done | rfl | (simp; omega) | simp), _, rfl, HD.out.1, HD.out.2⟩
          · have hp7 : 65536 < p := by omega
            go_wp2
            go_meet
            exact ⟨congrArg Value.bool (by rw [← hg, decide_eq_false (show ¬ (badN n ∨ badN k ∨ badN p) from by unfold badN; omega)]; first | done | rfl | (simp; omega) | simp), _, rfl, HD.out.1, HD.out.2⟩
        · have hp4 : p ≤ 300 := by omega
          go_wp2
          go_meet
          exact ⟨congrArg Value.bool (by rw [← hg, decide_eq_false (show ¬ (badN n ∨ badN k ∨ badN p) from by unfold badN; omega)]; first | done | rfl | (simp; omega) | simp), _, rfl, HD.out.1, HD.out.2⟩
  case rest =>
    obtain ⟨rfl, Wq1, rfl, hvs, hbl⟩ := hcut
    have HC1 := Lib.hid (And.intro hvs hbl)
    clear hvs hbl HC
    cases g with
    | true =>
      go_wp2_with fail
      refine (awake_any _).mono ?_
      rintro e w3 ⟨rfl, hb3⟩
      go_wp2
      go_ret
      exact ⟨rfl, below_then HC1.out.2 hb3⟩
    | false =>
      obtain ⟨px0, px1⟩ : Two Wq1 w.heap.size (.bool s1) (.slice A1 xs1.length c1) := (HC1.out.1 1 _ rfl).two rfl
      go_wp2_with fail
      refine (of_is _ x _ ((HC1.out.1 1 _ rfl).at_)).mono ?_
      rintro e wq2 ⟨qv2, rv2, rfl, ⟨qb2, qA2, qc2, qs2, rfl, qg2, ql2⟩, ⟨rb2, rA2, rc2, rs2, rfl, rg2, rl2⟩, hb2⟩
      have hv2 := (((((HC1.out.1.step hb2 rfl).told1 rg2 rl2).told0 qg2 ql2).laid 28).swap).laid 31
      rw [size_alloc] at hv2
      have hl2 : Below w.heap.size w ((wq2.alloc (.cells #[.bool qb2, .slice qA2 qs2.length qc2] 28)).alloc (.cells #[.bool rb2, .slice rA2 rs2.length rc2] 31)) := (((below_then HC1.out.2 hb2).alloc (Nat.le_trans HC1.out.2.size hb2.size) (.cells #[.bool qb2, .slice qA2 qs2.length qc2] 28)).alloc (Nat.le_trans (Nat.le_trans HC1.out.2.size hb2.size) (by simp)) (.cells #[.bool rb2, .slice rA2 rs2.length rc2] 31))
      obtain ⟨Wq2, hW2⟩ : ∃ W : World, W = (wq2.alloc (.cells #[.bool qb2, .slice qA2 qs2.length qc2] 28)).alloc (.cells #[.bool rb2, .slice rA2 rs2.length rc2] 31) := ⟨_, rfl⟩
      obtain ⟨rq2, hrq2⟩ : ∃ r : Nat, r = wq2.heap.size := ⟨_, rfl⟩
      obtain ⟨rr2, hrr2⟩ : ∃ r : Nat, r = wq2.heap.size + 1 := ⟨_, rfl⟩
      rw [← hW2] at hv2 hl2
      rw [← hrr2] at hv2
      rw [← hrq2] at hv2
      have HC2 := Lib.hid (And.intro hv2 hl2)
      have HW2 := Lib.hid hW2
      have HRq2 := Lib.hid hrq2
      have HRr2 := Lib.hid hrr2
      clear px0 px1
      clear hv2 hl2 hW2 hb2 hrq2 qg2 ql2 hrr2 rg2 rl2 HC1
      go_upto_region 4 with fail
      rw [← HW2.out]
      rw [← HRr2.out]
      rw [← HRq2.out]
      clear HW2 HRq2 HRr2
      obtain ⟨py0, py1⟩ : Two Wq2 (w.heap.size + 1) (.bool s2) (.slice A2 xs2.length c2) := (HC2.out.1 2 _ rfl).two rfl
      go_wp2_with fail
      refine (of_is _ y _ ((HC2.out.1 2 _ rfl).at_)).mono ?_
      rintro e wq3 ⟨qv3, rv3, rfl, ⟨qb3, qA3, qc3, qs3, rfl, qg3, ql3⟩, ⟨rb3, rA3, rc3, rs3, rfl, rg3, rl3⟩, hb3⟩
      have hv3 := (((((HC2.out.1.step hb3 rfl).told1 rg3 rl3).told0 qg3 ql3).laid 28).swap).laid 31
      rw [size_alloc] at hv3
      have hl3 : Below w.heap.size w ((wq3.alloc (.cells #[.bool qb3, .slice qA3 qs3.length qc3] 28)).alloc (.cells #[.bool rb3, .slice rA3 rs3.length rc3] 31)) := (((below_then HC2.out.2 hb3).alloc (Nat.le_trans HC2.out.2.size hb3.size) (.cells #[.bool qb3, .slice qA3 qs3.length qc3] 28)).alloc (Nat.le_trans (Nat.le_trans HC2.out.2.size hb3.size) (by simp)) (.cells #[.bool rb3, .slice rA3 rs3.length rc3] 31))
      obtain ⟨Wq3, hW3⟩ : ∃ W : World, W = (wq3.alloc (.cells #[.bool qb3, .slice qA3 qs3.length qc3] 28)).alloc (.cells #[.bool rb3, .slice rA3 rs3.length rc3] 31) := ⟨_, rfl⟩
      obtain ⟨rq3, hrq3⟩ : ∃ r : Nat, r = wq3.heap.size := ⟨_, rfl⟩
      obtain ⟨rr3, hrr3⟩ : ∃ r : Nat, r = wq3.heap.size + 1 := ⟨_, rfl⟩
      rw [← hW3] at hv3 hl3
      rw [← hrr3] at hv3
      rw [← hrq3] at hv3
      have HC3 := Lib.hid (And.intro hv3 hl3)
      have HW3 := Lib.hid hW3
      have HRq3 := Lib.hid hrq3
      have HRr3 := Lib.hid hrr3
      clear py0 py1
      clear hv3 hl3 hW3 hb3 hrq3 qg3 ql3 hrr3 rg3 rl3 HC2
      go_upto_region 5 with fail
      rw [← HW3.out]
      rw [← HRr3.out]
      rw [← HRq3.out]
      clear HW3 HRq3 HRr3
      obtain ⟨pa0, pa1⟩ : Two Wq3 rq2 (.bool qb2) (.slice qA2 qs2.length qc2) := (HC3.out.1 3 _ rfl).two rfl
      go_wp2_with fail
      refine (hs.out.p _ _ ((HC3.out.1 3 _ rfl).at_)).mono ?_
      rintro e wq4 ⟨qv4, rfl, ⟨qb4, qA4, qc4, qs4, rfl, qg4, ql4⟩, hb4⟩
      have hv4 := ((HC3.out.1.step hb4 rfl).told0 qg4 ql4).laid 28
      have hl4 : Below w.heap.size w (wq4.alloc (.cells #[.bool qb4, .slice qA4 qs4.length qc4] 28)) := ((below_then HC3.out.2 hb4).alloc (Nat.le_trans HC3.out.2.size hb4.size) (.cells #[.bool qb4, .slice qA4 qs4.length qc4] 28))
      obtain ⟨Wq4, hW4⟩ : ∃ W : World, W = wq4.alloc (.cells #[.bool qb4, .slice qA4 qs4.length qc4] 28) := ⟨_, rfl⟩
      obtain ⟨rq4, hrq4⟩ : ∃ r : Nat, r = wq4.heap.size := ⟨_, rfl⟩
      rw [← hW4] at hv4 hl4
      rw [← hrq4] at hv4
      have HC4 := Lib.hid (And.intro hv4 hl4)
      have HW4 := Lib.hid hW4
      have HRq4 := Lib.hid hrq4
      clear pa0 pa1
      clear hv4 hl4 hW4 hb4 hrq4 qg4 ql4 HC3
      go_upto_region 6 with fail
      rw [← HW4.out]
      rw [← HRq4.out]
      clear HW4 HRq4
      obtain ⟨pu0, pu1⟩ : Two Wq4 rr2 (.bool rb2) (.slice rA2 rs2.length rc2) := (HC4.out.1 3 _ rfl).two rfl
      go_wp2_with fail
      refine (hs.out.q _ _ ((HC4.out.1 3 _ rfl).at_)).mono ?_
      rintro e wq5 ⟨qv5, rfl, ⟨qb5, qA5, qc5, qs5, rfl, qg5, ql5⟩, hb5⟩
      have hv5 := ((HC4.out.1.step hb5 rfl).told1 qg5 ql5).laid 31
      have hl5 : Below w.heap.size w (wq5.alloc (.cells #[.bool qb5, .slice qA5 qs5.length qc5] 31)) := ((below_then HC4.out.2 hb5).alloc (Nat.le_trans HC4.out.2.size hb5.size) (.cells #[.bool qb5, .slice qA5 qs5.length qc5] 31))
      obtain ⟨Wq5, hW5⟩ : ∃ W : World, W = wq5.alloc (.cells #[.bool qb5, .slice qA5 qs5.length qc5] 31) := ⟨_, rfl⟩
      obtain ⟨rq5, hrq5⟩ : ∃ r : Nat, r = wq5.heap.size := ⟨_, rfl⟩
      rw [← hW5] at hv5 hl5
      rw [← hrq5] at hv5
      have HC5 := Lib.hid (And.intro hv5 hl5)
      have HW5 := Lib.hid hW5
      have HRq5 := Lib.hid hrq5
      clear pu0 pu1
      clear hv5 hl5 hW5 hb5 hrq5 qg5 ql5 HC4
      go_upto_region 7 with fail
      rw [← HW5.out]
      rw [← HRq5.out]
      clear HW5 HRq5
      obtain ⟨pa0, pa1⟩ : Two Wq5 rq2 (.bool qb2) (.slice qA2 qs2.length qc2) := (HC5.out.1 5 _ rfl).two rfl
      go_wp2_with fail
      refine (hf.out.p _ _ ((HC5.out.1 5 _ rfl).at_)).mono ?_
      rintro e wq6 ⟨qv6, rfl, ⟨qb6, qA6, qc6, qs6, rfl, qg6, ql6⟩, hb6⟩
      have hv6 := ((HC5.out.1.step hb6 rfl).told0 qg6 ql6).laid 28
      have hl6 : Below w.heap.size w (wq6.alloc (.cells #[.bool qb6, .slice qA6 qs6.length qc6] 28)) := ((below_then HC5.out.2 hb6).alloc (Nat.le_trans HC5.out.2.size hb6.size) (.cells #[.bool qb6, .slice qA6 qs6.length qc6] 28))
      obtain ⟨Wq6, hW6⟩ : ∃ W : World, W = wq6.alloc (.cells #[.bool qb6, .slice qA6 qs6.length qc6] 28) := ⟨_, rfl⟩
      obtain ⟨rq6, hrq6⟩ : ∃ r : Nat, r = wq6.heap.size := ⟨_, rfl⟩
      rw [← hW6] at hv6 hl6
      rw [← hrq6] at hv6
      have HC6 := Lib.hid (And.intro hv6 hl6)
      have HW6 := Lib.hid hW6
      have HRq6 := Lib.hid hrq6
      clear pa0 pa1
      clear hv6 hl6 hW6 hb6 hrq6 qg6 ql6 HC5
      go_upto_region 8 with fail
      rw [← HW6.out]
      rw [← HRq6.out]
      clear HW6 HRq6
      obtain ⟨pu0, pu1⟩ : Two Wq6 rr2 (.bool rb2) (.slice rA2 rs2.length rc2) := (HC6.out.1 5 _ rfl).two rfl
      go_wp2_with fail
      refine (hf.out.q _ _ ((HC6.out.1 5 _ rfl).at_)).mono ?_
      rintro e wq7 ⟨qv7, rfl, ⟨qb7, qA7, qc7, qs7, rfl, qg7, ql7⟩, hb7⟩
      have hv7 := ((HC6.out.1.step hb7 rfl).told1 qg7 ql7).laid 31
      have hl7 : Below w.heap.size w (wq7.alloc (.cells #[.bool qb7, .slice qA7 qs7.length qc7] 31)) := ((below_then HC6.out.2 hb7).alloc (Nat.le_trans HC6.out.2.size hb7.size) (.cells #[.bool qb7, .slice qA7 qs7.length qc7] 31))
      obtain ⟨Wq7, hW7⟩ : ∃ W : World, W = wq7.alloc (.cells #[.bool qb7, .slice qA7 qs7.length qc7] 31) := ⟨_, rfl⟩
      obtain ⟨rq7, hrq7⟩ : ∃ r : Nat, r = wq7.heap.size := ⟨_, rfl⟩
      rw [← hW7] at hv7 hl7
      rw [← hrq7] at hv7
      have HC7 := Lib.hid (And.intro hv7 hl7)
      have HW7 := Lib.hid hW7
      have HRq7 := Lib.hid hrq7
      clear pu0 pu1
      clear hv7 hl7 hW7 hb7 hrq7 qg7 ql7 HC6
      go_upto_region 9 with fail
      rw [← HW7.out]
      rw [← HRq7.out]
      clear HW7 HRq7
      obtain ⟨pa0, pa1⟩ : Two Wq7 rq2 (.bool qb2) (.slice qA2 qs2.length qc2) := (HC7.out.1 7 _ rfl).two rfl
      obtain ⟨pb0, pb1⟩ : Two Wq7 rq3 (.bool qb3) (.slice qA3 qs3.length qc3) := (HC7.out.1 5 _ rfl).two rfl
      go_wp2_with fail
      refine (hdp.out.p _ _ _ ((HC7.out.1 7 _ rfl).at_) ((HC7.out.1 5 _ rfl).at_)).mono ?_
      rintro e wq8 ⟨qv8, rfl, ⟨qb8, qA8, qc8, qs8, rfl, qg8, ql8⟩, hb8⟩
      have hv8 := ((HC7.out.1.step hb8 rfl).told0 qg8 ql8).laid 28
      have hl8 : Below w.heap.size w (wq8.alloc (.cells #[.bool qb8, .slice qA8 qs8.length qc8] 28)) := ((below_then HC7.out.2 hb8).alloc (Nat.le_trans HC7.out.2.size hb8.size) (.cells #[.bool qb8, .slice qA8 qs8.length qc8] 28))
      obtain ⟨Wq8, hW8⟩ : ∃ W : World, W = wq8.alloc (.cells #[.bool qb8, .slice qA8 qs8.length qc8] 28) := ⟨_, rfl⟩
      obtain ⟨rq8, hrq8⟩ : ∃ r : Nat, r = wq8.heap.size := ⟨_, rfl⟩
      rw [← hW8] at hv8 hl8
      rw [← hrq8] at hv8
      have HC8 := Lib.hid (And.intro hv8 hl8)
      have HW8 := Lib.hid hW8
      have HRq8 := Lib.hid hrq8
      clear pa0 pa1 pb0 pb1
      clear hv8 hl8 hW8 hb8 hrq8 qg8 ql8 HC7
      go_upto_region 10 with fail
      rw [← HW8.out]
      rw [← HRq8.out]
      clear HW8 HRq8
      obtain ⟨pu0, pu1⟩ : Two Wq8 rr2 (.bool rb2) (.slice rA2 rs2.length rc2) := (HC8.out.1 7 _ rfl).two rfl
      obtain ⟨pv0, pv1⟩ : Two Wq8 rr3 (.bool rb3) (.slice rA3 rs3.length rc3) := (HC8.out.1 5 _ rfl).two rfl
      go_wp2_with fail
      refine (hdp.out.q _ _ _ ((HC8.out.1 7 _ rfl).at_) ((HC8.out.1 5 _ rfl).at_)).mono ?_
      rintro e wq9 ⟨qv9, rfl, ⟨qb9, qA9, qc9, qs9, rfl, qg9, ql9⟩, hb9⟩
      have hv9 := ((HC8.out.1.step hb9 rfl).told1 qg9 ql9).laid 31
      have hl9 : Below w.heap.size w (wq9.alloc (.cells #[.bool qb9, .slice qA9 qs9.length qc9] 31)) := ((below_then HC8.out.2 hb9).alloc (Nat.le_trans HC8.out.2.size hb9.size) (.cells #[.bool qb9, .slice qA9 qs9.length qc9] 31))
      obtain ⟨Wq9, hW9⟩ : ∃ W : World, W = wq9.alloc (.cells #[.bool qb9, .slice qA9 qs9.length qc9] 31) := ⟨_, rfl⟩
      obtain ⟨rq9, hrq9⟩ : ∃ r : Nat, r = wq9.heap.size := ⟨_, rfl⟩
      rw [← hW9] at hv9 hl9
      rw [← hrq9] at hv9
      have HC9 := Lib.hid (And.intro hv9 hl9)
      have HW9 := Lib.hid hW9
      have HRq9 := Lib.hid hrq9
      clear pu0 pu1 pv0 pv1
      clear hv9 hl9 hW9 hb9 hrq9 qg9 ql9 HC8
      go_upto_region 11 with fail
      rw [← HW9.out]
      rw [← HRq9.out]
      clear HW9 HRq9
      obtain ⟨pp0, pp1⟩ : Two Wq9 rq4 (.bool qb4) (.slice qA4 qs4.length qc4) := (HC9.out.1 5 _ rfl).two rfl
      obtain ⟨pq0, pq1⟩ : Two Wq9 rq5 (.bool qb5) (.slice qA5 qs5.length qc5) := (HC9.out.1 4 _ rfl).two rfl
      go_wp2_with fail
      refine (is_same _ _ a 9000 _ ((HC9.out.1 5 _ rfl).at_) ((HC9.out.1 4 _ rfl).at_) (by omega) hs.out.fit).mono ?_
      rintro e wq10 ⟨rfl, hb10⟩
      have HC10 := Lib.hid (And.intro (HC9.out.1.step hb10 rfl) (below_then HC9.out.2 hb10))
      clear pp0 pp1 pq0 pq1
      clear hb10 HC9
      obtain ⟨pr0, pr1⟩ : Two wq10 rq6 (.bool qb6) (.slice qA6 qs6.length qc6) := (HC10.out.1 3 _ rfl).two rfl
      obtain ⟨ps0, ps1⟩ : Two wq10 rq7 (.bool qb7) (.slice qA7 qs7.length qc7) := (HC10.out.1 2 _ rfl).two rfl
      go_wp2_with fail
      refine (is_same _ _ b 9000 _ ((HC10.out.1 3 _ rfl).at_) ((HC10.out.1 2 _ rfl).at_) (by omega) hf.out.fit).mono ?_
      rintro e wq11 ⟨rfl, hb11⟩
      have HC11 := Lib.hid (And.intro (HC10.out.1.step hb11 rfl) (below_then HC10.out.2 hb11))
      clear pr0 pr1 ps0 ps1
      clear hb11 HC10
      obtain ⟨pc0, pc1⟩ : Two wq11 rq8 (.bool qb8) (.slice qA8 qs8.length qc8) := (HC11.out.1 1 _ rfl).two rfl
      obtain ⟨pd0, pd1⟩ : Two wq11 rq9 (.bool qb9) (.slice qA9 qs9.length qc9) := (HC11.out.1 0 _ rfl).two rfl
      go_wp2_with fail
      refine (is_same _ _ d 9000 _ ((HC11.out.1 1 _ rfl).at_) ((HC11.out.1 0 _ rfl).at_) (by omega) hdp.out.fit).mono ?_
      rintro e wq12 ⟨rfl, hb12⟩
      have HC12 := Lib.hid (And.intro (HC11.out.1.step hb12 rfl) (below_then HC11.out.2 hb12))
      clear pc0 pc1 pd0 pd1
      clear hb12 HC11
      go_wp2_with fail
      refine (awake_any _).mono ?_
      rintro e wq13 ⟨rfl, hb13⟩
      have HC13 := Lib.hid (And.intro (HC12.out.1.step hb13 rfl) (below_then HC12.out.2 hb13))
      clear hb13 HC12
      go_wp2
      go_ret
      exact ⟨rfl, HC13.out.2⟩
end Go.Proofs.Ytagocllbfbbneaa.RK
