/- For every integer a as plain data and all bytes m, n, the law IntegerRoots (P2.4) returns true, and what its arguments hold is unchanged. Conditions: none beyond the row's own. -/
import Derived.Test.YtagmdeabneapaaaRootsB
import Derived.Test.YtagmdeabneapaaaFrame
namespace Go.Proofs.Ytagmdeabneapaaa
open Go.ChangeShapes Go.WideShapes Go.ChangeAt Go.RowKit
set_option linter.unusedSimpArgs false

set_option maxRecDepth 100000 in
set_option maxHeartbeats 8000000 in
theorem roots_long (m n : Int) (s1 : Bool) (A1 : Option Addr) (n1 c1 : Nat) (w : World) (hl : ¬ n1 ≤ 6) :
    Calls Try.prog 12 #[.agg #[.bool s1, .slice A1 n1 c1], .int .u8 m, .int .u8 n] w fun e w' => IsBool w w' true e := by
  have hb0 : Below w.heap.size w (w.alloc (.cells #[.bool s1, .slice A1 n1 c1] 24)) := (Below.refl _ _).alloc (Nat.le_refl _) _
  have hsz : (w.alloc (.cells #[.bool s1, .slice A1 n1 c1] 24)).heap.size = w.heap.size + 1 := by rw [size_alloc]
  have hba : Below (w.alloc (.cells #[.bool s1, .slice A1 n1 c1] 24)).heap.size (w.alloc (.cells #[.bool s1, .slice A1 n1 c1] 24)) ((w.alloc (.cells #[.bool s1, .slice A1 n1 c1] 24)).alloc (.cells #[.bool s1, .slice A1 n1 c1] 24)) := (Below.refl _ _).alloc (Nat.le_refl _) _
  have hsh : Calls Try.prog 14 #[.int .i64 6, .slice (some ⟨w.heap.size + 1, 0, none⟩) 1 1] ((w.alloc (.cells #[.bool s1, .slice A1 n1 c1] 24)).alloc (.cells #[.bool s1, .slice A1 n1 c1] 24)) fun e w' => IsBool ((w.alloc (.cells #[.bool s1, .slice A1 n1 c1] 24)).alloc (.cells #[.bool s1, .slice A1 n1 c1] 24)) w' false e := by
    have hr := row1 (w.alloc (.cells #[.bool s1, .slice A1 n1 c1] 24)) s1 A1 n1 c1 24
    rw [hsz] at hr
    have := shortN_any (w.heap.size + 1) 6 [⟨s1, A1, n1, c1⟩] _ hr (by simp)
    rw [decide_eq_false (show ¬ AllS 6 [⟨s1, A1, n1, c1⟩] from fun h => hl (h _ (List.mem_cons_self ..)))] at this
    exact this
  have H := Lib.hid (And.intro hsh (below_then hb0 hba))
  clear hb0 hsz hba hsh hl
  go_enter Try.func12, Try.ntmps12
  go_wp2_with fail
  refine H.out.1.mono ?_
  rintro e w1 ⟨rfl, hb1⟩
  go_wp2_with fail
  refine (awake_any w1).mono ?_
  rintro e w2 ⟨rfl, hb2⟩
  go_wp2
  go_ret
  exact ⟨rfl, below_then (below_then H.out.2 hb1) hb2⟩

theorem u8_of {n : Int} (h : (Lit.int .u8 n).wf = true) : ∃ k : Nat, n = (k : Int) ∧ k ≤ 255 := by
  simp only [Lit.wf, Bool.and_eq_true, decide_eq_true_eq] at h
  rw [show IntKind.u8.min = 0 from rfl, show IntKind.u8.max = 255 from rfl] at h
  exact ⟨n.toNat, by omega, by omega⟩
theorem roots_law (v1 : Value) (m n : Int) (w : World) (h1 : IsN w v1) (w0 : (Lit.int .u8 m).wf = true) (w1 : (Lit.int .u8 n).wf = true) :
    Calls Try.prog 12 #[v1, .int .u8 m, .int .u8 n] w fun e w' => IsBool w w' true e := by
  obtain ⟨s1, A1, c1, xs1, rfl, n1, o1, l1, _⟩ := h1
  obtain ⟨a, rfl, ha⟩ := u8_of w0
  obtain ⟨b, rfl, hb⟩ := u8_of w1
  by_cases h : xs1.length ≤ 6
  · exact roots_short a b s1 A1 c1 xs1 w ⟨n1, o1, Nat.le_trans h (by decide), l1⟩ h ha hb
  · exact roots_long a b s1 A1 xs1.length c1 w h

set_option maxRecDepth 100000 in
theorem roots_lifted (os : Os) (started : os.Started) (H : Type) (enc : TypeId × Value → H) :
    ReturnsInHanded {} Try.checked os 12 .any (Rows.integerRootsSpec.pre6 enc Try.prog Try.f12 Rows.integerRootsRow.domain false) (Rows.integerRootsSpec.post enc Try.prog Try.f12 false true false false) := by
  refine returnsInHanded_of_change (C := Try.checked) own started (by kernel_rfl) Try.func12
    (ChangeSpec.witness6 (enc := enc) (C := Try.checked) false ⟨#[], #[.agg #[.bool false, .slice none 0 0], .int .u8 0, .int .u8 0], []⟩ 8 (by kernel_rfl) (by kernel_rfl) (by kernel_rfl) (by kernel_rfl)) ?_
  intro W base args ds gs before hval0 hW hcnd _
  have hval : ∀ (j : Nat) t v, Try.f12.params[j]? = some t → args[j]? = some v → Value.okWide Try.prog W .any base t v := hval0
  have hW' := hW
  obtain ⟨p, q, hA0, hV, rfl, hfz, hnd⟩ := hW
  have hA : DataW.TrodAll enc Try.prog W 0 (fun _ => true) true Try.f12.params.toList args.toList ds p := hA0
  rw [Try.params12] at hA hval
  obtain ⟨v0, vs0, d0, ds0, p0, q0, hargs, rfl, rfl, h0, r0⟩ := trodAll_cons hA
  obtain ⟨v1, vs1, d1, ds1, p1, q1, rfl, rfl, rfl, h1, r1⟩ := trodAll_cons r0
  obtain ⟨v2, vs2, d2, ds2, p2, q2, rfl, rfl, rfl, h2, r2⟩ := trodAll_cons r1
  obtain ⟨rfl, rfl, rfl⟩ := trodAll_nil r2
  obtain rfl : args = #[v0, v1, v2] := by cases args; simp_all
  obtain ⟨rfl, rfl⟩ := trodVars_none hV
  have lt0 : ∀ x ∈ p0, x.block < W.heap.size := by obtain ⟨m, hm⟩ := id h0; exact DataW.trod_lt m _ _ _ hm
  have w0 := open_N (hval 0 24 v0 rfl rfl) h0 lt0
  obtain ⟨a1, rfl, rfl, rfl, w1⟩ := open_int Try.underlying5 (hval 1 5 v1 rfl rfl) h1
  obtain ⟨a2, rfl, rfl, rfl, w2⟩ := open_int Try.underlying5 (hval 2 5 v2 rfl rfl) h2
  clear hA0 hval0
  refine (roots_law v0 a1 a2 W w0 w1 w2).mono fun e W' ⟨he, bel⟩ => ?_
  subst he
  exact ⟨_, rfl, _, _, _, [], _, [], hW', trodAll_mk1 (shut_bool Try.underlying4 _),
    (trodAll_cons_mk (Below.trod laidOut (by kernel_rfl) (of_decide_eq_true (by kernel_rfl)) h0 bel lt0)
      (trodAll_cons_mk (shut_int Try.underlying5 w1)
      (trodAll_cons_mk (shut_int Try.underlying5 w2)
      trodAll_mk0))), rfl, bel.frame _, fun h => by cases h⟩

theorem roots_holds : Rows.IntegerRootsSaid :=
  OpenClaim.holds_of_wide 12 Try.f12 rfl rfl rfl rfl rfl rfl rfl ⟨rfl, rfl, rfl, rfl, rfl⟩ rfl rfl rfl rfl rfl (by kernel_rfl) Try.func12 (by kernel_rfl)
    (of_decide_eq_true (by kernel_rfl)) (by unfold Func.isWrapper; first | (rw [if_pos (by decide +kernel)]; kernel_rfl) | (rw [if_neg (by decide +kernel)]; exact ⟨rfl, rfl⟩))
    (fun os started H enc _ => roots_lifted os started H enc)
#print axioms roots_holds
end Go.Proofs.Ytagmdeabneapaaa
