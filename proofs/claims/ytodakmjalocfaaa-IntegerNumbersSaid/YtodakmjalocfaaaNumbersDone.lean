/- For all numbers x as plain data and all int64 n, the law IntegerNumbers (P2.1) returns true, and what its arguments hold is unchanged. Conditions: none beyond the row's own. -/
import Derived.Test.YtodakmjalocfaaaNumbers
import Derived.Test.YtodakmjalocfaaaFrame
namespace Go.Proofs.Ytodakmjalocfaaa
open Go.ChangeShapes Go.WideShapes Go.ChangeAt Go.RowKit

set_option maxRecDepth 100000 in
set_option maxHeartbeats 4000000 in
theorem numbers_long (s : Bool) (A : Option Addr) (len c : Nat) (n : Int) (w : World) (hl : ¬ len ≤ 12) :
    Calls Try.prog 3 #[.agg #[.bool s, .slice A len c], .int .i64 n] w fun e w' => IsBool w w' true e := by
  have hg := Two.new (w.alloc (.cells #[.bool s, .slice A len c] 24)) (.bool s) (.slice A len c) 24
  rw [size_alloc] at hg
  have hbel : Below w.heap.size w ((w.alloc (.cells #[.bool s, .slice A len c] 24)).alloc (.cells #[.bool s, .slice A len c] 24)) := ((Below.refl _ _).alloc (Nat.le_refl _) _).alloc (by simp) _
  have hrow : NRow ((w.alloc (.cells #[.bool s, .slice A len c] 24)).alloc (.cells #[.bool s, .slice A len c] 24)) (w.heap.size + 1) [⟨s, A, len, c⟩] :=
    ⟨by simp, fun i x hi => by
      match i, hi with
      | 0, hi => simp at hi; subst hi; exact hg⟩
  have hsh : Calls Try.prog 14 #[.int .i64 12, .slice (some ⟨w.heap.size + 1, 0, none⟩) 1 1] ((w.alloc (.cells #[.bool s, .slice A len c] 24)).alloc (.cells #[.bool s, .slice A len c] 24)) fun e w' => IsBool ((w.alloc (.cells #[.bool s, .slice A len c] 24)).alloc (.cells #[.bool s, .slice A len c] 24)) w' false e := by
    have := shortN_any (w.heap.size + 1) 12 [⟨s, A, len, c⟩] _ hrow (by simp)
    rw [decide_eq_false (show ¬ AllS 12 [⟨s, A, len, c⟩] from fun h => hl (h _ (List.mem_cons_self ..)))] at this
    exact this
  have H := Lib.hid (And.intro hsh hbel)
  clear hg hbel hrow hsh hl
  go_enter Try.func3, Try.ntmps3
  go_wp2_with fail
  refine H.out.1.mono ?_
  rintro e w1 ⟨rfl, hb1⟩
  go_wp2_with fail
  refine (awake_any w1).mono ?_
  rintro e w2 ⟨rfl, hb2⟩
  go_wp2
  go_ret
  exact ⟨rfl, below_then (below_then H.out.2 hb1) hb2⟩

theorem numbers_any (v : Value) (n : Int) (w : World) (h : IsN w v) (hw : (Lit.int .i64 n).wf = true) : Calls Try.prog 3 #[v, .int .i64 n] w fun e w' => IsBool w w' true e := by
  obtain ⟨s, A, c, xs, rfl, hn, ho, hl, _⟩ := h
  by_cases h : xs.length ≤ 12
  · simp only [Lit.wf, Bool.and_eq_true, decide_eq_true_eq] at hw
    rw [show IntKind.i64.min = -9223372036854775808 from rfl, show IntKind.i64.max = 9223372036854775807 from rfl] at hw
    exact numbers_short s A c xs n w hn ho h hl hw.1 (by omega)
  · exact numbers_long s A xs.length c n w h

set_option maxRecDepth 100000 in
theorem numbers_lifted (os : Os) (started : os.Started) (H : Type) (enc : TypeId × Value → H) :
    ReturnsInHanded {} Try.checked os 3 .any (Rows.integerNumbersSpec.pre6 enc Try.prog Try.f3 Rows.integerNumbersRow.domain false) (Rows.integerNumbersSpec.post enc Try.prog Try.f3 false true false false) := by
  refine returnsInHanded_of_change (C := Try.checked) own started (by kernel_rfl) Try.func3
    (ChangeSpec.witness6 (enc := enc) (C := Try.checked) false ⟨#[], #[.agg #[.bool false, .slice none 0 0], .int .i64 0], []⟩ 8 (by kernel_rfl) (by kernel_rfl) (by kernel_rfl) (by kernel_rfl)) ?_
  intro W base args ds gs before hval0 hW hcnd _
  have hval : ∀ (j : Nat) t v, Try.f3.params[j]? = some t → args[j]? = some v → Value.okWide Try.prog W .any base t v := hval0
  have hW' := hW
  obtain ⟨p, q, hA0, hV, rfl, hfz, hnd⟩ := hW
  have hA : DataW.TrodAll enc Try.prog W 0 (fun _ => true) true Try.f3.params.toList args.toList ds p := hA0
  rw [Try.params3] at hA hval
  obtain ⟨v0, vs0, d0, ds0, p0, q0, hargs, rfl, rfl, h0, r0⟩ := trodAll_cons hA
  obtain ⟨v1, vs1, d1, ds1, p1, q1, rfl, rfl, rfl, h1, r1⟩ := trodAll_cons r0
  obtain ⟨rfl, rfl, rfl⟩ := trodAll_nil r1
  obtain rfl : args = #[v0, v1] := by cases args; simp_all
  obtain ⟨rfl, rfl⟩ := trodVars_none hV
  have lt0 : ∀ x ∈ p0, x.block < W.heap.size := by obtain ⟨m, hm⟩ := id h0; exact DataW.trod_lt m _ _ _ hm
  have w0 := open_N (hval 0 24 v0 rfl rfl) h0 lt0
  obtain ⟨a1, rfl, rfl, rfl, w1⟩ := open_int Try.underlying2 (hval 1 2 v1 rfl rfl) h1
  clear hA0 hval0
  refine (numbers_any v0 a1 W w0 w1).mono fun e W' ⟨he, bel⟩ => ?_
  subst he
  exact ⟨_, rfl, _, _, _, [], _, [], hW', trodAll_mk1 (shut_bool Try.underlying4 _),
    (trodAll_cons_mk (Below.trod laidOut (by kernel_rfl) (of_decide_eq_true (by kernel_rfl)) h0 bel lt0)
      (trodAll_cons_mk (shut_int Try.underlying2 w1) trodAll_mk0)), rfl, bel.frame _, fun h => by cases h⟩

theorem numbers_holds : Rows.IntegerNumbersSaid :=
  OpenClaim.holds_of_wide 3 Try.f3 rfl rfl rfl rfl rfl rfl rfl ⟨rfl, rfl, rfl, rfl, rfl⟩ rfl rfl rfl rfl rfl (by kernel_rfl) Try.func3 (by kernel_rfl)
    (of_decide_eq_true (by kernel_rfl)) (by unfold Func.isWrapper; first | (rw [if_pos (by decide +kernel)]; kernel_rfl) | (rw [if_neg (by decide +kernel)]; exact ⟨rfl, rfl⟩))
    (fun os started H enc _ => numbers_lifted os started H enc)
#print axioms numbers_holds
end Go.Proofs.Ytodakmjalocfaaa
