/- For all integers n, d and every fraction y as plain data, the law RationalNumbers (P3.1) returns true, and what its arguments hold is unchanged. Conditions: none beyond the row's own. -/
import Derived.Test.YtpgbnegppehckaaGreatJ7
set_option linter.unusedSimpArgs false
set_option maxRecDepth 100000
set_option maxHeartbeats 8000000
namespace Go.Proofs.YtpgbnegppehckaaGreat
open Go.ChangeShapes Go.WideShapes Go.ChangeAt Go.RowKit
open RK FK
theorem numbersq_long (b1 : Bool) (A1 : Option Addr) (n1 c1 : Nat) (b2 : Bool) (A2 : Option Addr) (n2 c2 : Nat) (b3 : Bool) (A3 : Option Addr) (n3 c3 : Nat) (bb3 : Bool) (AA3 : Option Addr) (nn3 cc3 : Nat) (w : World) (hl : ¬ (n1 ≤ 4 ∧ n2 ≤ 4)) :
    Calls Tryz.prog 3 #[.agg #[.bool b1, .slice A1 n1 c1], .agg #[.bool b2, .slice A2 n2 c2], .agg #[.bool b3, .slice A3 n3 c3, .bool bb3, .slice AA3 nn3 cc3]] w fun e w' => IsBool w w' true e := by
  have hb0 : Below w.heap.size w (((w.alloc (.cells #[.bool b1, .slice A1 n1 c1] 24)).alloc (.cells #[.bool b2, .slice A2 n2 c2] 24)).alloc (.cells #[.bool b3, .slice A3 n3 c3, .bool bb3, .slice AA3 nn3 cc3] 26)) := (boxed2_b w _ _).alloc (by simp; omega) _
  have hsz : (((w.alloc (.cells #[.bool b1, .slice A1 n1 c1] 24)).alloc (.cells #[.bool b2, .slice A2 n2 c2] 24)).alloc (.cells #[.bool b3, .slice A3 n3 c3, .bool bb3, .slice AA3 nn3 cc3] 26)).heap.size = w.heap.size + 3 := by simp
  have sh := short2 4 b1 b2 A1 A2 n1 n2 c1 c2 (((w.alloc (.cells #[.bool b1, .slice A1 n1 c1] 24)).alloc (.cells #[.bool b2, .slice A2 n2 c2] 24)).alloc (.cells #[.bool b3, .slice A3 n3 c3, .bool bb3, .slice AA3 nn3 cc3] 26)) false (decide_eq_false hl)
  rw [hsz] at sh
  have hb1 : Below w.heap.size w ((((w.alloc (.cells #[.bool b1, .slice A1 n1 c1] 24)).alloc (.cells #[.bool b2, .slice A2 n2 c2] 24)).alloc (.cells #[.bool b3, .slice A3 n3 c3, .bool bb3, .slice AA3 nn3 cc3] 26)).alloc (.cells #[.bool b1, .slice A1 n1 c1, .bool b2, .slice A2 n2 c2] 24)) := hb0.alloc (by rw [hsz]; omega) _
  have H := Lib.hid (And.intro sh hb1)
  clear hb0 hsz sh hb1 hl
  go_enter Tryz.func3, Tryz.ntmps3
  go_wp2_with fail
  refine H.out.1.mono ?_
  rintro e w1 ⟨rfl, hb1⟩
  go_wp2_with fail
  refine (tawake_any w1).mono ?_
  rintro e w2 ⟨rfl, hb2⟩
  go_wp2
  go_ret
  exact ⟨rfl, below_then (below_then H.out.2 hb1) hb2⟩
theorem numbersq_wide (b1 : Bool) (A1 : Option Addr) (n1 c1 : Nat) (b2 : Bool) (A2 : Option Addr) (n2 c2 : Nat) (b3 : Bool) (A3 : Option Addr) (n3 c3 : Nat) (bb3 : Bool) (AA3 : Option Addr) (nn3 cc3 : Nat) (w : World) (hl : n1 ≤ 4 ∧ n2 ≤ 4) (hq : ¬ (n3 ≤ 4 ∧ nn3 ≤ 4)) :
    Calls Tryz.prog 3 #[.agg #[.bool b1, .slice A1 n1 c1], .agg #[.bool b2, .slice A2 n2 c2], .agg #[.bool b3, .slice A3 n3 c3, .bool bb3, .slice AA3 nn3 cc3]] w fun e w' => IsBool w w' true e := by
  have hb0 : Below w.heap.size w (((w.alloc (.cells #[.bool b1, .slice A1 n1 c1] 24)).alloc (.cells #[.bool b2, .slice A2 n2 c2] 24)).alloc (.cells #[.bool b3, .slice A3 n3 c3, .bool bb3, .slice AA3 nn3 cc3] 26)) := (boxed2_b w _ _).alloc (by simp; omega) _
  have hsz : (((w.alloc (.cells #[.bool b1, .slice A1 n1 c1] 24)).alloc (.cells #[.bool b2, .slice A2 n2 c2] 24)).alloc (.cells #[.bool b3, .slice A3 n3 c3, .bool bb3, .slice AA3 nn3 cc3] 26)).heap.size = w.heap.size + 3 := by simp
  have sh := short2 4 b1 b2 A1 A2 n1 n2 c1 c2 (((w.alloc (.cells #[.bool b1, .slice A1 n1 c1] 24)).alloc (.cells #[.bool b2, .slice A2 n2 c2] 24)).alloc (.cells #[.bool b3, .slice A3 n3 c3, .bool bb3, .slice AA3 nn3 cc3] 26)) true (decide_eq_true hl)
  rw [hsz] at sh
  have hb1 : Below w.heap.size w ((((w.alloc (.cells #[.bool b1, .slice A1 n1 c1] 24)).alloc (.cells #[.bool b2, .slice A2 n2 c2] 24)).alloc (.cells #[.bool b3, .slice A3 n3 c3, .bool bb3, .slice AA3 nn3 cc3] 26)).alloc (.cells #[.bool b1, .slice A1 n1 c1, .bool b2, .slice A2 n2 c2] 24)) := hb0.alloc (by rw [hsz]; omega) _
  have hQ : Quad ((((w.alloc (.cells #[.bool b1, .slice A1 n1 c1] 24)).alloc (.cells #[.bool b2, .slice A2 n2 c2] 24)).alloc (.cells #[.bool b3, .slice A3 n3 c3, .bool bb3, .slice AA3 nn3 cc3] 26)).alloc (.cells #[.bool b1, .slice A1 n1 c1, .bool b2, .slice A2 n2 c2] 24)) (w.heap.size + 2) (.bool b3) (.slice A3 n3 c3) (.bool bb3) (.slice AA3 nn3 cc3) := by
    have := (Quad.new ((w.alloc (.cells #[.bool b1, .slice A1 n1 c1] 24)).alloc (.cells #[.bool b2, .slice A2 n2 c2] 24)) (.bool b3) (.slice A3 n3 c3) (.bool bb3) (.slice AA3 nn3 cc3) 26).alloc (by simp) (.cells #[.bool b1, .slice A1 n1 c1, .bool b2, .slice A2 n2 c2] 24)
    rw [size_alloc, size_alloc] at this
    exact this
  have hlt : w.heap.size + 2 < ((((w.alloc (.cells #[.bool b1, .slice A1 n1 c1] 24)).alloc (.cells #[.bool b2, .slice A2 n2 c2] 24)).alloc (.cells #[.bool b3, .slice A3 n3 c3, .bool bb3, .slice AA3 nn3 cc3] 26)).alloc (.cells #[.bool b1, .slice A1 n1 c1, .bool b2, .slice A2 n2 c2] 24)).heap.size := by simp
  have st := fun W : World => tshort1 4 b3 bb3 A3 AA3 n3 nn3 c3 cc3 W false (decide_eq_false hq)
  have H := Lib.hid (And.intro sh (And.intro hb1 (And.intro hQ (And.intro hlt st))))
  clear hb0 hsz sh hb1 hl hq hQ hlt st
  go_enter Tryz.func3, Tryz.ntmps3
  go_wp2_with fail
  refine H.out.1.mono ?_
  rintro e w1 ⟨rfl, hb1⟩
  obtain ⟨q0, q1, q2, q3⟩ := H.out.2.2.1.step hb1 rfl H.out.2.2.2.1
  have HB := Lib.hid (below_then H.out.2.1 hb1)
  have HC := Lib.hid (show Below w.heap.size w (w1.alloc (.cells #[.bool b3, .slice A3 n3 c3, .bool bb3, .slice AA3 nn3 cc3] 26)) from HB.out.alloc HB.out.size _)
  go_wp2_with fail
  refine (H.out.2.2.2.2 w1).mono ?_
  rintro e w2 ⟨rfl, hb2⟩
  have HD := Lib.hid (below_then HC.out hb2)
  go_wp2_with fail
  refine (tawake_any w2).mono ?_
  rintro e w3 ⟨rfl, hb3⟩
  go_wp2
  go_ret
  exact ⟨rfl, below_then HD.out hb3⟩
theorem numbersq_law (v1 v2 v3 : Value) (w : World) (h1 : IsN w v1) (h2 : IsN w v2) (h3 : IsQ w v3) :
    Calls Tryz.prog 3 #[v1, v2, v3] w fun e w' => IsBool w w' true e := by
  obtain ⟨b1, A1, c1, xs1, rfl, k1⟩ := id h1
  obtain ⟨b2, A2, c2, xs2, rfl, k2⟩ := id h2
  obtain ⟨b3, A3, n3, c3, bb3, AA3, nn3, cc3, rfl, q1, q2⟩ := h3
  by_cases hl : xs1.length ≤ 4 ∧ xs2.length ≤ 4
  · by_cases hq : n3 ≤ 4 ∧ nn3 ≤ 4
    · obtain ⟨n, a1, f1⟩ := isN_nat h1 hl.1 (by decide)
      obtain ⟨d, a2, f2⟩ := isN_nat h2 hl.2 (by decide)
      obtain ⟨yn, a3, f3⟩ := isN_nat q1 hq.1 (by decide)
      obtain ⟨yd, a4, f4⟩ := isN_nat q2 hq.2 (by decide)
      obtain ⟨X, D, er, nb⟩ := new_both n d 4 (by decide) (by decide) f1 f2
      obtain ⟨P, Q, ob⟩ := of_both yn yd 4 (by decide) (by decide) f3 f4
      refine numbers_short n d yn yd X D er P Q _ _ _ w a1 a2 ⟨_, _, _, _, _, _, _, _, rfl, a3, a4⟩ (fun _ _ _ _ _ _ _ _ e1 e2 => ?_) (fun _ _ _ _ _ _ _ _ e => ?_) nb ob f1
      · simp only [Value.agg.injEq, Array.mk.injEq, List.cons.injEq, Value.slice.injEq, and_true] at e1 e2
        rw [← e1.2.2.1, ← e2.2.2.1]
        exact hl
      · simp only [Value.agg.injEq, Array.mk.injEq, List.cons.injEq, Value.slice.injEq, and_true] at e
        rw [← e.2.1.2.1, ← e.2.2.2.2.1]
        exact hq
    · exact numbersq_wide b1 A1 xs1.length c1 b2 A2 xs2.length c2 b3 A3 n3 c3 bb3 AA3 nn3 cc3 w hl hq
  · exact numbersq_long b1 A1 xs1.length c1 b2 A2 xs2.length c2 b3 A3 n3 c3 bb3 AA3 nn3 cc3 w hl
theorem numbersq_lifted (os : Os) (started : os.Started) (H : Type) (enc : TypeId × Value → H) :
    ReturnsInHanded {} Tryz.checked os 3 .any (Rows.rationalNumbersSpec.pre6 enc Tryz.prog Tryz.f3 Rows.rationalNumbersRow.domain false) (Rows.rationalNumbersSpec.post enc Tryz.prog Tryz.f3 false true false false) := by
  refine returnsInHanded_of_change (C := Tryz.checked) own started (by kernel_rfl) Tryz.func3
    (ChangeSpec.witness6 (enc := enc) (C := Tryz.checked) false ⟨#[], #[.agg #[.bool false, .slice none 0 0], .agg #[.bool false, .slice none 0 0], .agg #[.bool false, .slice none 0 0, .bool false, .slice none 0 0]], []⟩ 8 (by kernel_rfl) (by kernel_rfl) (by kernel_rfl) (by kernel_rfl)) ?_
  intro W base args ds gs before hval0 hW hcnd _
  have hval : ∀ (j : Nat) t v, Tryz.f3.params[j]? = some t → args[j]? = some v → Value.okWide Tryz.prog W .any base t v := hval0
  have hW' := hW
  obtain ⟨p, q, hA0, hV, rfl, hfz, hnd⟩ := hW
  have hA : DataW.TrodAll enc Tryz.prog W 0 (fun _ => true) true Tryz.f3.params.toList args.toList ds p := hA0
  rw [Tryz.params3] at hA hval
  obtain ⟨v0, vs0, d0, ds0, p0, q0, hargs, rfl, rfl, h0, r0⟩ := trodAll_cons hA
  obtain ⟨v1, vs1, d1, ds1, p1, q1, rfl, rfl, rfl, h1, r1⟩ := trodAll_cons r0
  obtain ⟨v2, vs2, d2, ds2, p2, q2, rfl, rfl, rfl, h2, r2⟩ := trodAll_cons r1
  obtain ⟨rfl, rfl, rfl⟩ := trodAll_nil r2
  obtain rfl : args = #[v0, v1, v2] := by cases args; simp_all
  obtain ⟨rfl, rfl⟩ := trodVars_none hV
  have lt0 : ∀ x ∈ p0, x.block < W.heap.size := by obtain ⟨m, hm⟩ := id h0; exact DataW.trod_lt m _ _ _ hm
  have lt1 : ∀ x ∈ p1, x.block < W.heap.size := by obtain ⟨m, hm⟩ := id h1; exact DataW.trod_lt m _ _ _ hm
  have lt2 : ∀ x ∈ p2, x.block < W.heap.size := by obtain ⟨m, hm⟩ := id h2; exact DataW.trod_lt m _ _ _ hm
  have w0 := open_N (hval 0 24 v0 rfl rfl) h0 lt0
  have w1 := open_N (hval 1 24 v1 rfl rfl) h1 lt1
  have w2 := open_Q (hval 2 26 v2 rfl rfl) h2 lt2
  clear hA0 hval0
  refine (numbersq_law v0 v1 v2 W w0 w1 w2).mono fun e W' ⟨he, bel⟩ => ?_
  subst he
  exact ⟨_, rfl, _, _, _, [], _, [], hW', trodAll_mk1 (shut_bool Tryz.underlying4 _),
    (trodAll_cons_mk (Below.trod laidOut (by kernel_rfl) (of_decide_eq_true (by kernel_rfl)) h0 bel lt0)
      (trodAll_cons_mk (Below.trod laidOut (by kernel_rfl) (of_decide_eq_true (by kernel_rfl)) h1 bel lt1)
      (trodAll_cons_mk (Below.trod laidOut (by kernel_rfl) (of_decide_eq_true (by kernel_rfl)) h2 bel lt2)
      trodAll_mk0))), rfl, bel.frame _, fun h => by cases h⟩
theorem numbersq_holds : Rows.RationalNumbersSaid :=
  OpenClaim.holds_of_wide 3 Tryz.f3 rfl rfl rfl rfl rfl rfl rfl ⟨rfl, rfl, rfl, rfl, rfl⟩ rfl rfl rfl rfl rfl (by kernel_rfl) Tryz.func3 (by kernel_rfl)
    (of_decide_eq_true (by kernel_rfl)) (by unfold Func.isWrapper; first | (rw [if_pos (by decide +kernel)]; kernel_rfl) | (rw [if_neg (by decide +kernel)]; exact ⟨rfl, rfl⟩))
    (fun os started H enc _ => numbersq_lifted os started H enc)
#print axioms numbersq_holds
end Go.Proofs.YtpgbnegppehckaaGreat
