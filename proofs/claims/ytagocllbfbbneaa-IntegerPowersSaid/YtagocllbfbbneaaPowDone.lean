/- For all integers x, y as plain data and all int n, the law IntegerPowers (P2.1) returns true, and what its arguments hold is unchanged. Conditions: none beyond the row's own. -/
import Derived.Test.YtagocllbfbbneaaPowLaw
import Derived.Test.YtagocllbfbbneaaFrame
namespace Go.Proofs.Ytagocllbfbbneaa
open Go.ChangeShapes Go.WideShapes Go.ChangeAt Go.RowKit
set_option linter.unusedSimpArgs false

open RK
set_option maxRecDepth 100000 in
set_option maxHeartbeats 4000000 in
theorem powers_long1 (n : Int) (s1 : Bool) (A1 : Option Addr) (n1 c1 : Nat) (s2 : Bool) (A2 : Option Addr) (n2 c2 : Nat) (w : World) (hl : ¬ n2 ≤ 8) :
    Calls Try.prog 5 #[.agg #[.bool s1, .slice A1 n1 c1], .int .i64 n, .agg #[.bool s2, .slice A2 n2 c2]] w fun e w' => IsBool w w' true e := by
  have hb0 := boxed2_b w (.cells #[.bool s1, .slice A1 n1 c1] 24) (.cells #[.bool s2, .slice A2 n2 c2] 24)
  have hsz : ((w.alloc (.cells #[.bool s1, .slice A1 n1 c1] 24)).alloc (.cells #[.bool s2, .slice A2 n2 c2] 24)).heap.size = w.heap.size + 2 := by simp
  have sh1 := short1 8 s2 A2 n2 c2 ((w.alloc (.cells #[.bool s1, .slice A1 n1 c1] 24)).alloc (.cells #[.bool s2, .slice A2 n2 c2] 24)) false (decide_eq_false hl)
  rw [hsz] at sh1
  have hb1 : Below w.heap.size w (((w.alloc (.cells #[.bool s1, .slice A1 n1 c1] 24)).alloc (.cells #[.bool s2, .slice A2 n2 c2] 24)).alloc (.cells #[.bool s2, .slice A2 n2 c2] 24)) := hb0.alloc (by simp; omega) _
  have H := Lib.hid (And.intro sh1 hb1)
  clear hb0 hsz sh1 hb1 hl
  go_enter Try.func5, Try.ntmps5
  go_wp2_with fail
  refine H.out.1.mono ?_
  rintro e w1 ⟨rfl, hb1⟩
  go_wp2_with fail
  refine (awake_any w1).mono ?_
  rintro e w2 ⟨rfl, hb2⟩
  go_wp2
  go_ret
  exact ⟨rfl, below_then (below_then H.out.2 hb1) hb2⟩
set_option maxRecDepth 100000 in
set_option maxHeartbeats 4000000 in
theorem powers_long2 (n : Int) (s1 : Bool) (A1 : Option Addr) (n1 c1 : Nat) (s2 : Bool) (A2 : Option Addr) (n2 c2 : Nat) (w : World) (h2 : n2 ≤ 8) (hl : ¬ n1 ≤ 2) :
    Calls Try.prog 5 #[.agg #[.bool s1, .slice A1 n1 c1], .int .i64 n, .agg #[.bool s2, .slice A2 n2 c2]] w fun e w' => IsBool w w' true e := by
  have hb0 := boxed2_b w (.cells #[.bool s1, .slice A1 n1 c1] 24) (.cells #[.bool s2, .slice A2 n2 c2] 24)
  have hsz : ((w.alloc (.cells #[.bool s1, .slice A1 n1 c1] 24)).alloc (.cells #[.bool s2, .slice A2 n2 c2] 24)).heap.size = w.heap.size + 2 := by simp
  have sh1 := short1 8 s2 A2 n2 c2 ((w.alloc (.cells #[.bool s1, .slice A1 n1 c1] 24)).alloc (.cells #[.bool s2, .slice A2 n2 c2] 24)) true (decide_eq_true h2)
  rw [hsz] at sh1
  have hb1 : Below w.heap.size w (((w.alloc (.cells #[.bool s1, .slice A1 n1 c1] 24)).alloc (.cells #[.bool s2, .slice A2 n2 c2] 24)).alloc (.cells #[.bool s2, .slice A2 n2 c2] 24)) := hb0.alloc (by simp; omega) _
  have hx0 : Two (((w.alloc (.cells #[.bool s1, .slice A1 n1 c1] 24)).alloc (.cells #[.bool s2, .slice A2 n2 c2] 24)).alloc (.cells #[.bool s2, .slice A2 n2 c2] 24)) w.heap.size (.bool s1) (.slice A1 n1 c1) := ((Two.new w _ _ _).alloc (by simp) _).alloc (by simp; omega) _
  have hlt : w.heap.size < (((w.alloc (.cells #[.bool s1, .slice A1 n1 c1] 24)).alloc (.cells #[.bool s2, .slice A2 n2 c2] 24)).alloc (.cells #[.bool s2, .slice A2 n2 c2] 24)).heap.size := by simp; omega
  have sh2 : ∀ W : World, Calls Try.prog 14 #[.int .i64 2, .slice (some ⟨W.heap.size, 0, none⟩) 1 1] (W.alloc (.cells #[.bool s1, .slice A1 n1 c1] 24)) fun e w' => IsBool (W.alloc (.cells #[.bool s1, .slice A1 n1 c1] 24)) w' false e := fun W => short1 2 s1 A1 n1 c1 W false (decide_eq_false hl)
  have H := Lib.hid (And.intro sh1 (And.intro hb1 (And.intro sh2 (And.intro hx0 hlt))))
  clear hb0 hsz sh1 hb1 hx0 hlt sh2 hl h2
  go_enter Try.func5, Try.ntmps5
  go_wp2_with fail
  refine H.out.1.mono ?_
  rintro e w1 ⟨rfl, hb1⟩
  obtain ⟨px0, px1⟩ := H.out.2.2.2.1.step hb1 rfl H.out.2.2.2.2
  have hb3 : Below w.heap.size w (w1.alloc (.cells #[.bool s1, .slice A1 n1 c1] 24)) := (below_then H.out.2.1 hb1).alloc (Nat.le_trans H.out.2.1.size hb1.size) _
  have HB := Lib.hid hb3
  clear hb1 hb3
  go_wp2_with fail
  refine (H.out.2.2.1 w1).mono ?_
  rintro e w2 ⟨rfl, hb2⟩
  clear px0 px1
  go_wp2_with fail
  refine (awake_any w2).mono ?_
  rintro e w3 ⟨rfl, hb3⟩
  go_wp2
  go_ret
  exact ⟨rfl, below_then (below_then HB.out hb2) hb3⟩
theorem powers_law (v1 : Value) (n : Int) (v2 : Value) (w : World) (h1 : IsN w v1) (w1 : (Lit.int .i64 n).wf = true) (h2 : IsN w v2) :
    Calls Try.prog 5 #[v1, .int .i64 n, v2] w fun e w' => IsBool w w' true e := by
  obtain ⟨s1, A1, c1, xs1, rfl, n1, o1, l1, _⟩ := h1
  obtain ⟨s2, A2, c2, xs2, rfl, n2, o2, l2, _⟩ := h2
  simp only [Lit.wf, Bool.and_eq_true, decide_eq_true_eq] at w1
  rw [show IntKind.i64.min = -9223372036854775808 from rfl, show IntKind.i64.max = 9223372036854775807 from rfl] at w1
  by_cases k2 : xs2.length ≤ 8
  · by_cases k1 : xs1.length ≤ 2
    · have a1 : NAt w (.agg #[.bool s1, .slice A1 xs1.length c1]) (ofSign s1 (Lm.val B32 xs1)) := ⟨s1, A1, c1, xs1, rfl, n1, o1, l1, by omega, rfl⟩
      have a2 : NAt w (.agg #[.bool s2, .slice A2 xs2.length c2]) (ofSign s2 (Lm.val B32 xs2)) := ⟨s2, A2, c2, xs2, rfl, n2, o2, l2, by omega, rfl⟩
      have f1 := fitn s1 o1 k1
      have f2 := fitn s2 o2 k2
      obtain ⟨x, hx⟩ : ∃ x, ofSign s1 (Lm.val B32 xs1) = x := ⟨_, rfl⟩
      obtain ⟨y, hy⟩ : ∃ y, ofSign s2 (Lm.val B32 xs2) = y := ⟨_, rfl⟩
      rw [hx] at a1 f1
      rw [hy] at a2 f2
      obtain ⟨b, eb, hr⟩ := roots_same y f2
      have hlu : ¬ 1 < bl x.natAbs → x.natAbs ≤ 1 := fun h => by have := bl_le.1 (show bl x.natAbs ≤ 1 by omega); omega
      rcases (show n ≤ 40 ∨ (40 < n ∧ 1 < bl x.natAbs) ∨ (40 < n ∧ bl x.natAbs ≤ 1) by omega) with h | ⟨h, h'⟩ | ⟨h, h'⟩
      · obtain ⟨a, ea, hp⟩ := powers_same x n f1 w1.1 w1.2 (.inl h)
        exact powers_short n n x y a ea b eb _ s1 A1 c1 xs1 s2 A2 c2 xs2 w a1 a2 k1 k2 f1 rfl false (.inl ⟨h, rfl, rfl⟩) hp hr
      · obtain ⟨a, ea, hp⟩ := powers_same x 40 f1 (by decide) (by decide) (.inl (by decide))
        exact powers_short n 40 x y a ea b eb _ s1 A1 c1 xs1 s2 A2 c2 xs2 w a1 a2 k1 k2 f1 rfl true (.inr (.inl ⟨h, h', rfl, rfl⟩)) hp hr
      · obtain ⟨a, ea, hp⟩ := powers_same x n f1 w1.1 w1.2 (.inr (hlu (by omega)))
        exact powers_short n n x y a ea b eb _ s1 A1 c1 xs1 s2 A2 c2 xs2 w a1 a2 k1 k2 f1 rfl false (.inr (.inr ⟨h, h', rfl, rfl⟩)) hp hr
    · exact powers_long2 n s1 A1 xs1.length c1 s2 A2 xs2.length c2 w k2 k1
  · exact powers_long1 n s1 A1 xs1.length c1 s2 A2 xs2.length c2 w k2

set_option maxRecDepth 100000 in
theorem powers_lifted (os : Os) (started : os.Started) (H : Type) (enc : TypeId × Value → H) :
    ReturnsInHanded {} Try.checked os 5 .any (Rows.integerPowersSpec.pre6 enc Try.prog Try.f5 Rows.integerPowersRow.domain false) (Rows.integerPowersSpec.post enc Try.prog Try.f5 false true false false) := by
  refine returnsInHanded_of_change (C := Try.checked) own started (by kernel_rfl) Try.func5
    (ChangeSpec.witness6 (enc := enc) (C := Try.checked) false ⟨#[], #[.agg #[.bool false, .slice none 0 0], .int .i64 0, .agg #[.bool false, .slice none 0 0]], []⟩ 8 (by kernel_rfl) (by kernel_rfl) (by kernel_rfl) (by kernel_rfl)) ?_
  intro W base args ds gs before hval0 hW hcnd _
  have hval : ∀ (j : Nat) t v, Try.f5.params[j]? = some t → args[j]? = some v → Value.okWide Try.prog W .any base t v := hval0
  have hW' := hW
  obtain ⟨p, q, hA0, hV, rfl, hfz, hnd⟩ := hW
  have hA : DataW.TrodAll enc Try.prog W 0 (fun _ => true) true Try.f5.params.toList args.toList ds p := hA0
  rw [Try.params5] at hA hval
  obtain ⟨v0, vs0, d0, ds0, p0, q0, hargs, rfl, rfl, h0, r0⟩ := trodAll_cons hA
  obtain ⟨v1, vs1, d1, ds1, p1, q1, rfl, rfl, rfl, h1, r1⟩ := trodAll_cons r0
  obtain ⟨v2, vs2, d2, ds2, p2, q2, rfl, rfl, rfl, h2, r2⟩ := trodAll_cons r1
  obtain ⟨rfl, rfl, rfl⟩ := trodAll_nil r2
  obtain rfl : args = #[v0, v1, v2] := by cases args; simp_all
  obtain ⟨rfl, rfl⟩ := trodVars_none hV
  have lt0 : ∀ x ∈ p0, x.block < W.heap.size := by obtain ⟨m, hm⟩ := id h0; exact DataW.trod_lt m _ _ _ hm
  have lt2 : ∀ x ∈ p2, x.block < W.heap.size := by obtain ⟨m, hm⟩ := id h2; exact DataW.trod_lt m _ _ _ hm
  have w0 := open_N (hval 0 24 v0 rfl rfl) h0 lt0
  obtain ⟨a1, rfl, rfl, rfl, w1⟩ := open_int Try.underlying3 (hval 1 3 v1 rfl rfl) h1
  have w2 := open_N (hval 2 24 v2 rfl rfl) h2 lt2
  clear hA0 hval0
  refine (powers_law v0 a1 v2 W w0 w1 w2).mono fun e W' ⟨he, bel⟩ => ?_
  subst he
  exact ⟨_, rfl, _, _, _, [], _, [], hW', trodAll_mk1 (shut_bool Try.underlying4 _),
    (trodAll_cons_mk (Below.trod laidOut (by kernel_rfl) (of_decide_eq_true (by kernel_rfl)) h0 bel lt0)
      (trodAll_cons_mk (shut_int Try.underlying3 w1)
      (trodAll_cons_mk (Below.trod laidOut (by kernel_rfl) (of_decide_eq_true (by kernel_rfl)) h2 bel lt2)
      trodAll_mk0))), rfl, bel.frame _, fun h => by cases h⟩

theorem powers_holds : Rows.IntegerPowersSaid :=
  OpenClaim.holds_of_wide 5 Try.f5 rfl rfl rfl rfl rfl rfl rfl ⟨rfl, rfl, rfl, rfl, rfl⟩ rfl rfl rfl rfl rfl (by kernel_rfl) Try.func5 (by kernel_rfl)
    (of_decide_eq_true (by kernel_rfl)) (by unfold Func.isWrapper; first | (rw [if_pos (by decide +kernel)]; kernel_rfl) | (rw [if_neg (by decide +kernel)]; exact ⟨rfl, rfl⟩))
    (fun os started H enc _ => powers_lifted os started H enc)
#print axioms powers_holds
end Go.Proofs.Ytagocllbfbbneaa
