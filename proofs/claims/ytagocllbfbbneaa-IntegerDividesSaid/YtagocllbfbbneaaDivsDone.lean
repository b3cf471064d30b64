/- For all integers a, b, c as plain data, the law IntegerDivides (P2.3) returns true, and what its arguments hold is unchanged. Conditions: none beyond the row's own. -/
import Derived.Test.YtagocllbfbbneaaDivsLaw
import Derived.Test.YtagocllbfbbneaaFrame
namespace Go.Proofs.Ytagocllbfbbneaa
open Go.ChangeShapes Go.WideShapes Go.ChangeAt Go.RowKit
set_option linter.unusedSimpArgs false

open RK
set_option maxRecDepth 100000 in
set_option maxHeartbeats 4000000 in
theorem divs_long (s1 : Bool) (A1 : Option Addr) (n1 c1 : Nat) (s2 : Bool) (A2 : Option Addr) (n2 c2 : Nat) (s3 : Bool) (A3 : Option Addr) (n3 c3 : Nat) (w : World) (hl : ¬ (n1 ≤ 6 ∧ n2 ≤ 6 ∧ n3 ≤ 6)) :
    Calls Try.prog 11 #[.agg #[.bool s1, .slice A1 n1 c1], .agg #[.bool s2, .slice A2 n2 c2], .agg #[.bool s3, .slice A3 n3 c3]] w fun e w' => IsBool w w' true e := by
  have hs := ringAt_size w s1 (.slice A1 n1 c1) s2 (.slice A2 n2 c2) s3 (.slice A3 n3 c3)
  have hb0 := ringAt_below w s1 (.slice A1 n1 c1) s2 (.slice A2 n2 c2) s3 (.slice A3 n3 c3)
  have hsh := short3 6 s1 A1 n1 c1 s2 A2 n2 c2 s3 A3 n3 c3 (ringAt w s1 (.slice A1 n1 c1) s2 (.slice A2 n2 c2) s3 (.slice A3 n3 c3)) false (decide_eq_false hl)
  rw [hs] at hsh
  have hb1 := hb0.alloc hb0.size (.cells #[.bool s1, .slice A1 n1 c1, .bool s2, .slice A2 n2 c2, .bool s3, .slice A3 n3 c3] 24)
  have H := Lib.hid (And.intro hsh hb1)
  clear hb0 hs hsh hb1 hl
  go_enter Try.func11, Try.ntmps11
  go_wp2_with fail
  refine H.out.1.mono ?_
  rintro e w1 ⟨rfl, hb1⟩
  go_wp2_with fail
  refine (awake_any w1).mono ?_
  rintro e w2 ⟨rfl, hb2⟩
  go_wp2
  go_ret
  exact ⟨rfl, below_then (below_then H.out.2 hb1) hb2⟩
theorem divs_law (v1 v2 v3 : Value) (w : World) (h1 : IsN w v1) (h2 : IsN w v2) (h3 : IsN w v3) :
    Calls Try.prog 11 #[v1, v2, v3] w fun e w' => IsBool w w' true e := by
  obtain ⟨s1, A1, c1, xs1, rfl, n1, o1, l1, _⟩ := h1
  obtain ⟨s2, A2, c2, xs2, rfl, n2, o2, l2, _⟩ := h2
  obtain ⟨s3, A3, c3, xs3, rfl, n3, o3, l3, _⟩ := h3
  by_cases h : xs1.length ≤ 6 ∧ xs2.length ≤ 6 ∧ xs3.length ≤ 6
  · exact divs_short s1 A1 c1 xs1 s2 A2 c2 xs2 s3 A3 c3 xs3 w ⟨n1, o1, by omega, l1⟩ ⟨n2, o2, by omega, l2⟩ ⟨n3, o3, by omega, l3⟩ h
  · exact divs_long s1 A1 xs1.length c1 s2 A2 xs2.length c2 s3 A3 xs3.length c3 w h

set_option maxRecDepth 100000 in
theorem divs_lifted (os : Os) (started : os.Started) (H : Type) (enc : TypeId × Value → H) :
    ReturnsInHanded {} Try.checked os 11 .any (Rows.integerDividesSpec.pre6 enc Try.prog Try.f11 Rows.integerDividesRow.domain false) (Rows.integerDividesSpec.post enc Try.prog Try.f11 false true false false) := by
  refine returnsInHanded_of_change (C := Try.checked) own started (by kernel_rfl) Try.func11
    (ChangeSpec.witness6 (enc := enc) (C := Try.checked) false ⟨#[], #[.agg #[.bool false, .slice none 0 0], .agg #[.bool false, .slice none 0 0], .agg #[.bool false, .slice none 0 0]], []⟩ 8 (by kernel_rfl) (by kernel_rfl) (by kernel_rfl) (by kernel_rfl)) ?_
  intro W base args ds gs before hval0 hW hcnd _
  have hval : ∀ (j : Nat) t v, Try.f11.params[j]? = some t → args[j]? = some v → Value.okWide Try.prog W .any base t v := hval0
  have hW' := hW
  obtain ⟨p, q, hA0, hV, rfl, hfz, hnd⟩ := hW
  have hA : DataW.TrodAll enc Try.prog W 0 (fun _ => true) true Try.f11.params.toList args.toList ds p := hA0
  rw [Try.params11] at hA hval
  obtain ⟨v0, vs0, d0, ds0, p0, q0, hargs, rfl, rfl, h0, r0⟩ := trodAll_cons hA
  obtain ⟨v1, vs1, d1, ds1, p1, q1, rfl, rfl, rfl, h1, r1⟩ := trodAll_cons r0
  obtain ⟨v2, vs2, d2, ds2, p2, q2, rfl, rfl, rfl, h2, r2⟩ := trodAll_cons r1
  obtain ⟨rfl, rfl, rfl⟩ := trodAll_nil r2
  obtain rfl : args = #[v0, v1, v2] := by cases args; simp_all
  obtain ⟨rfl, rfl⟩ := trodVars_none hV
  have lt0 : ∀ x ∈ p0, x.block < W.heap.size := by obtain ⟨m, hm⟩ := id h0; exact DataW.trod_lt m _ _ _ hm
  have lt1 : ∀ x ∈ p1, x.block < W.heap.size := by obtain ⟨m, hm⟩ := id h1; exact DataW.trod_lt m _ _ _ hm
  have lt2 : ∀ x ∈ p2, x.block < W.heap.size := by obtain ⟨m, hm⟩ := id h2; exact DataW.trod_lt m _ _ _ hm
  have w0 := open_N (hval 0 24 v0 rfl rfl) h0 lt0
  have w1 := open_N (hval 1 24 v1 rfl rfl) h1 lt1
  have w2 := open_N (hval 2 24 v2 rfl rfl) h2 lt2
  clear hA0 hval0
  refine (divs_law v0 v1 v2 W w0 w1 w2).mono fun e W' ⟨he, bel⟩ => ?_
  subst he
  exact ⟨_, rfl, _, _, _, [], _, [], hW', trodAll_mk1 (shut_bool Try.underlying4 _),
    (trodAll_cons_mk (Below.trod laidOut (by kernel_rfl) (of_decide_eq_true (by kernel_rfl)) h0 bel lt0)
      (trodAll_cons_mk (Below.trod laidOut (by kernel_rfl) (of_decide_eq_true (by kernel_rfl)) h1 bel lt1)
      (trodAll_cons_mk (Below.trod laidOut (by kernel_rfl) (of_decide_eq_true (by kernel_rfl)) h2 bel lt2)
      trodAll_mk0))), rfl, bel.frame _, fun h => by cases h⟩

theorem divs_holds : Rows.IntegerDividesSaid :=
  OpenClaim.holds_of_wide 11 Try.f11 rfl rfl rfl rfl rfl rfl rfl ⟨rfl, rfl, rfl, rfl, rfl⟩ rfl rfl rfl rfl rfl (by kernel_rfl) Try.func11 (by kernel_rfl)
    (of_decide_eq_true (by kernel_rfl)) (by unfold Func.isWrapper; first | (rw [if_pos (by decide +kernel)]; kernel_rfl) | (rw [if_neg (by decide +kernel)]; exact ⟨rfl, rfl⟩))
    (fun os started H enc _ => divs_lifted os started H enc)
#print axioms divs_holds
end Go.Proofs.Ytagocllbfbbneaa
