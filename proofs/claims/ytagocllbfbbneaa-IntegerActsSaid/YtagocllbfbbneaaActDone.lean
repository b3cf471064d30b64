/- For all integers x, y as plain data, the law IntegerActs (P2.1) returns true, and what its arguments hold is unchanged. Conditions: none beyond the row's own. -/
import Derived.Test.YtagocllbfbbneaaActLaw
import Derived.Test.YtagocllbfbbneaaFrame
namespace Go.Proofs.Ytagocllbfbbneaa
open Go.ChangeShapes Go.WideShapes Go.ChangeAt Go.RowKit
set_option linter.unusedSimpArgs false

open RK
set_option maxRecDepth 100000 in
set_option maxHeartbeats 4000000 in
theorem acts_long (s1 : Bool) (A1 : Option Addr) (n1 c1 : Nat) (s2 : Bool) (A2 : Option Addr) (n2 c2 : Nat) (w : World) (hl : ¬ (n1 ≤ 8 ∧ n2 ≤ 8)) :
    Calls Try.prog 4 #[.agg #[.bool s1, .slice A1 n1 c1], .agg #[.bool s2, .slice A2 n2 c2]] w fun e w' => IsBool w w' true e := by
  have hb0 := boxed2_b w (.cells #[.bool s1, .slice A1 n1 c1] 24) (.cells #[.bool s2, .slice A2 n2 c2] 24)
  have hsz : ((w.alloc (.cells #[.bool s1, .slice A1 n1 c1] 24)).alloc (.cells #[.bool s2, .slice A2 n2 c2] 24)).heap.size = w.heap.size + 2 := by simp
  have sh := short2 8 s1 s2 A1 A2 n1 n2 c1 c2 ((w.alloc (.cells #[.bool s1, .slice A1 n1 c1] 24)).alloc (.cells #[.bool s2, .slice A2 n2 c2] 24)) false (decide_eq_false hl)
  rw [hsz] at sh
  have hb1 : Below w.heap.size w (((w.alloc (.cells #[.bool s1, .slice A1 n1 c1] 24)).alloc (.cells #[.bool s2, .slice A2 n2 c2] 24)).alloc (.cells #[.bool s1, .slice A1 n1 c1, .bool s2, .slice A2 n2 c2] 24)) := hb0.alloc (by simp; omega) _
  have H := Lib.hid (And.intro sh hb1)
  clear hb0 hsz sh hb1 hl
  go_enter Try.func4, Try.ntmps4
  go_wp2_with fail
  refine H.out.1.mono ?_
  rintro e w1 ⟨rfl, hb1⟩
  go_wp2_with fail
  refine (awake_any w1).mono ?_
  rintro e w2 ⟨rfl, hb2⟩
  go_wp2
  go_ret
  exact ⟨rfl, below_then (below_then H.out.2 hb1) hb2⟩
theorem fitnA (s : Bool) {xs : List Nat} {m : Nat} (ho : Lm.Ok B32 xs) (hl : xs.length ≤ m) : (ofSign s (Lm.val B32 xs)).natAbs < B32 ^ m := by
  have h := Nat.lt_of_lt_of_le (Lm.val_lt ho) (Nat.pow_le_pow_right B32_pos hl)
  unfold ofSign
  cases s <;> simp <;> exact h
theorem acts_law (v1 v2 : Value) (w : World) (h1 : IsN w v1) (h2 : IsN w v2) :
    Calls Try.prog 4 #[v1, v2] w fun e w' => IsBool w w' true e := by
  obtain ⟨s1, A1, c1, xs1, rfl, n1, o1, l1, _⟩ := h1
  obtain ⟨s2, A2, c2, xs2, rfl, n2, o2, l2, _⟩ := h2
  by_cases hk : xs1.length ≤ 8 ∧ xs2.length ≤ 8
  · have a1 : NAt w (.agg #[.bool s1, .slice A1 xs1.length c1]) (ofSign s1 (Lm.val B32 xs1)) := ⟨s1, A1, c1, xs1, rfl, n1, o1, l1, by omega, rfl⟩
    have a2 : NAt w (.agg #[.bool s2, .slice A2 xs2.length c2]) (ofSign s2 (Lm.val B32 xs2)) := ⟨s2, A2, c2, xs2, rfl, n2, o2, l2, by omega, rfl⟩
    have f1 := fitnA s1 o1 hk.1
    have f2 := fitnA s2 o2 hk.2
    obtain ⟨x, hx⟩ : ∃ x, ofSign s1 (Lm.val B32 xs1) = x := ⟨_, rfl⟩
    obtain ⟨y, hy⟩ : ∃ y, ofSign s2 (Lm.val B32 xs2) = y := ⟨_, rfl⟩
    rw [hx] at a1 f1
    rw [hy] at a2 f2
    obtain ⟨q, r, er, c, n, a, s, m, p, g, ha⟩ := acts_same x y f1 f2
    exact acts_short x y q r er c n a s m p g s1 A1 c1 xs1 s2 A2 c2 xs2 w a1 a2 hk.1 hk.2 ha
  · exact acts_long s1 A1 xs1.length c1 s2 A2 xs2.length c2 w hk

set_option maxRecDepth 100000 in
theorem acts_lifted (os : Os) (started : os.Started) (H : Type) (enc : TypeId × Value → H) :
    ReturnsInHanded {} Try.checked os 4 .any (Rows.integerActsSpec.pre6 enc Try.prog Try.f4 Rows.integerActsRow.domain false) (Rows.integerActsSpec.post enc Try.prog Try.f4 false true false false) := by
  refine returnsInHanded_of_change (C := Try.checked) own started (by kernel_rfl) Try.func4
    (ChangeSpec.witness6 (enc := enc) (C := Try.checked) false ⟨#[], #[.agg #[.bool false, .slice none 0 0], .agg #[.bool false, .slice none 0 0]], []⟩ 8 (by kernel_rfl) (by kernel_rfl) (by kernel_rfl) (by kernel_rfl)) ?_
  intro W base args ds gs before hval0 hW hcnd _
  have hval : ∀ (j : Nat) t v, Try.f4.params[j]? = some t → args[j]? = some v → Value.okWide Try.prog W .any base t v := hval0
  have hW' := hW
  obtain ⟨p, q, hA0, hV, rfl, hfz, hnd⟩ := hW
  have hA : DataW.TrodAll enc Try.prog W 0 (fun _ => true) true Try.f4.params.toList args.toList ds p := hA0
  rw [Try.params4] at hA hval
  obtain ⟨v0, vs0, d0, ds0, p0, q0, hargs, rfl, rfl, h0, r0⟩ := trodAll_cons hA
  obtain ⟨v1, vs1, d1, ds1, p1, q1, rfl, rfl, rfl, h1, r1⟩ := trodAll_cons r0
  obtain ⟨rfl, rfl, rfl⟩ := trodAll_nil r1
  obtain rfl : args = #[v0, v1] := by cases args; simp_all
  obtain ⟨rfl, rfl⟩ := trodVars_none hV
  have lt0 : ∀ x ∈ p0, x.block < W.heap.size := by obtain ⟨m, hm⟩ := id h0; exact DataW.trod_lt m _ _ _ hm
  have lt1 : ∀ x ∈ p1, x.block < W.heap.size := by obtain ⟨m, hm⟩ := id h1; exact DataW.trod_lt m _ _ _ hm
  have w0 := open_N (hval 0 24 v0 rfl rfl) h0 lt0
  have w1 := open_N (hval 1 24 v1 rfl rfl) h1 lt1
  clear hA0 hval0
  refine (acts_law v0 v1 W w0 w1).mono fun e W' ⟨he, bel⟩ => ?_
  subst he
  exact ⟨_, rfl, _, _, _, [], _, [], hW', trodAll_mk1 (shut_bool Try.underlying4 _),
    (trodAll_cons_mk (Below.trod laidOut (by kernel_rfl) (of_decide_eq_true (by kernel_rfl)) h0 bel lt0)
      (trodAll_cons_mk (Below.trod laidOut (by kernel_rfl) (of_decide_eq_true (by kernel_rfl)) h1 bel lt1)
      trodAll_mk0)), rfl, bel.frame _, fun h => by cases h⟩

theorem acts_holds : Rows.IntegerActsSaid :=
  OpenClaim.holds_of_wide 4 Try.f4 rfl rfl rfl rfl rfl rfl rfl ⟨rfl, rfl, rfl, rfl, rfl⟩ rfl rfl rfl rfl rfl (by kernel_rfl) Try.func4 (by kernel_rfl)
    (of_decide_eq_true (by kernel_rfl)) (by unfold Func.isWrapper; first | (rw [if_pos (by decide +kernel)]; kernel_rfl) | (rw [if_neg (by decide +kernel)]; exact ⟨rfl, rfl⟩))
    (fun os started H enc _ => acts_lifted os started H enc)
#print axioms acts_holds
end Go.Proofs.Ytagocllbfbbneaa
