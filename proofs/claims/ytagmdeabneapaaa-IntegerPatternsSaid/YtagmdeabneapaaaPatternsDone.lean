/- For all integers a, b as plain data, all bytes op, size, position and all bit, the law IntegerPatterns (P2.5) returns true, and what its arguments hold is unchanged. Conditions: none beyond the row's own. -/
import Derived.Test.YtagmdeabneapaaaPatterns
import Derived.Test.YtagmdeabneapaaaFrame
namespace Go.Proofs.Ytagmdeabneapaaa
open Go.ChangeShapes Go.WideShapes Go.ChangeAt Go.RowKit
set_option linter.unusedSimpArgs false

set_option maxRecDepth 100000 in
set_option maxHeartbeats 8000000 in
theorem patterns_long (op size position bit : Int) (s1 : Bool) (A1 : Option Addr) (n1 c1 : Nat) (s2 : Bool) (A2 : Option Addr) (n2 c2 : Nat) (w : World) (hl : ¬ (n1 ≤ 6 ∧ n2 ≤ 6)) :
    Calls Try.prog 13 #[.agg #[.bool s1, .slice A1 n1 c1], .agg #[.bool s2, .slice A2 n2 c2], .int .u8 op, .int .u8 size, .int .u8 position, .int .u16 bit] w fun e w' => IsBool w w' true e := by
  have hb0 := boxed2_bel w (.bool s1) (.slice A1 n1 c1) (.bool s2) (.slice A2 n2 c2)
  have hsz := boxed2_size w (.bool s1) (.slice A1 n1 c1) (.bool s2) (.slice A2 n2 c2)
  have hba : Below (boxed2 w (.bool s1) (.slice A1 n1 c1) (.bool s2) (.slice A2 n2 c2)).heap.size (boxed2 w (.bool s1) (.slice A1 n1 c1) (.bool s2) (.slice A2 n2 c2)) ((boxed2 w (.bool s1) (.slice A1 n1 c1) (.bool s2) (.slice A2 n2 c2)).alloc (.cells #[.bool s1, .slice A1 n1 c1, .bool s2, .slice A2 n2 c2] 24)) := (Below.refl _ _).alloc (Nat.le_refl _) _
  have hsh : Calls Try.prog 14 #[.int .i64 6, .slice (some ⟨w.heap.size + 2, 0, none⟩) 2 2] ((boxed2 w (.bool s1) (.slice A1 n1 c1) (.bool s2) (.slice A2 n2 c2)).alloc (.cells #[.bool s1, .slice A1 n1 c1, .bool s2, .slice A2 n2 c2] 24)) fun e w' => IsBool ((boxed2 w (.bool s1) (.slice A1 n1 c1) (.bool s2) (.slice A2 n2 c2)).alloc (.cells #[.bool s1, .slice A1 n1 c1, .bool s2, .slice A2 n2 c2] 24)) w' false e := by
    have hr := row2 (boxed2 w (.bool s1) (.slice A1 n1 c1) (.bool s2) (.slice A2 n2 c2)) s1 s2 A1 A2 n1 n2 c1 c2 24
    rw [hsz] at hr
    have := shortN_any (w.heap.size + 2) 6 [⟨s1, A1, n1, c1⟩, ⟨s2, A2, n2, c2⟩] _ hr (by simp)
    rw [decide_eq_false (show ¬ AllS 6 [⟨s1, A1, n1, c1⟩, ⟨s2, A2, n2, c2⟩] from fun h => hl ⟨h _ (List.mem_cons_self ..), h _ (List.mem_cons_of_mem _ (List.mem_cons_self ..))⟩)] at this
    exact this
  have H := Lib.hid (And.intro hsh (below_then hb0 hba))
  clear hb0 hsz hba hsh hl
  go_enter Try.func13, Try.ntmps13
  go_wp2_with fail
  refine H.out.1.mono ?_
  rintro e w1 ⟨rfl, hb1⟩
  go_wp2_with fail
  refine (awake_any w1).mono ?_
  rintro e w2 ⟨rfl, hb2⟩
  go_wp2
  go_ret
  exact ⟨rfl, below_then (below_then H.out.2 hb1) hb2⟩

theorem u8_of {n : Int} (h : (Lit.int .u8 n).wf = true) : ∃ k : Nat, n = (k : Int) ∧ k ≤ 255 := by
  simp only [Lit.wf, Bool.and_eq_true, decide_eq_true_eq] at h
  rw [show IntKind.u8.min = 0 from rfl, show IntKind.u8.max = 255 from rfl] at h
  exact ⟨n.toNat, by omega, by omega⟩
theorem u16_of {n : Int} (h : (Lit.int .u16 n).wf = true) : ∃ k : Nat, n = (k : Int) ∧ k ≤ 65535 := by
  simp only [Lit.wf, Bool.and_eq_true, decide_eq_true_eq] at h
  rw [show IntKind.u16.min = 0 from rfl, show IntKind.u16.max = 65535 from rfl] at h
  exact ⟨n.toNat, by omega, by omega⟩
theorem patterns_law (v1 v2 : Value) (op size position bit : Int) (w : World) (h1 : IsN w v1) (h2 : IsN w v2) (w0 : (Lit.int .u8 op).wf = true) (w1 : (Lit.int .u8 size).wf = true) (w2 : (Lit.int .u8 position).wf = true) (w3 : (Lit.int .u16 bit).wf = true) :
    Calls Try.prog 13 #[v1, v2, .int .u8 op, .int .u8 size, .int .u8 position, .int .u16 bit] w fun e w' => IsBool w w' true e := by
  obtain ⟨s1, A1, c1, xs1, rfl, n1, o1, l1, _⟩ := h1
  obtain ⟨s2, A2, c2, xs2, rfl, n2, o2, l2, _⟩ := h2
  obtain ⟨a, rfl, ha⟩ := u8_of w0
  obtain ⟨b, rfl, hb⟩ := u8_of w1
  obtain ⟨c, rfl, hc⟩ := u8_of w2
  obtain ⟨d, rfl, hd⟩ := u16_of w3
  by_cases h : xs1.length ≤ 6 ∧ xs2.length ≤ 6
  · exact patterns_short a b c d s1 A1 c1 xs1 s2 A2 c2 xs2 w ⟨n1, o1, Nat.le_trans h.1 (by decide), l1⟩ ⟨n2, o2, Nat.le_trans h.2 (by decide), l2⟩ h.1 h.2 ha hb hc hd
  · exact patterns_long a b c d s1 A1 xs1.length c1 s2 A2 xs2.length c2 w h

set_option maxRecDepth 100000 in
theorem patterns_lifted (os : Os) (started : os.Started) (H : Type) (enc : TypeId × Value → H) :
    ReturnsInHanded {} Try.checked os 13 .any (Rows.integerPatternsSpec.pre6 enc Try.prog Try.f13 Rows.integerPatternsRow.domain false) (Rows.integerPatternsSpec.post enc Try.prog Try.f13 false true false false) := by
  refine returnsInHanded_of_change (C := Try.checked) own started (by kernel_rfl) Try.func13
    (ChangeSpec.witness6 (enc := enc) (C := Try.checked) false ⟨#[], #[.agg #[.bool false, .slice none 0 0], .agg #[.bool false, .slice none 0 0], .int .u8 0, .int .u8 0, .int .u8 0, .int .u16 0], []⟩ 8 (by kernel_rfl) (by kernel_rfl) (by kernel_rfl) (by kernel_rfl)) ?_
  intro W base args ds gs before hval0 hW hcnd _
  have hval : ∀ (j : Nat) t v, Try.f13.params[j]? = some t → args[j]? = some v → Value.okWide Try.prog W .any base t v := hval0
  have hW' := hW
  obtain ⟨p, q, hA0, hV, rfl, hfz, hnd⟩ := hW
  have hA : DataW.TrodAll enc Try.prog W 0 (fun _ => true) true Try.f13.params.toList args.toList ds p := hA0
  rw [Try.params13] at hA hval
  obtain ⟨v0, vs0, d0, ds0, p0, q0, hargs, rfl, rfl, h0, r0⟩ := trodAll_cons hA
  obtain ⟨v1, vs1, d1, ds1, p1, q1, rfl, rfl, rfl, h1, r1⟩ := trodAll_cons r0
  obtain ⟨v2, vs2, d2, ds2, p2, q2, rfl, rfl, rfl, h2, r2⟩ := trodAll_cons r1
  obtain ⟨v3, vs3, d3, ds3, p3, q3, rfl, rfl, rfl, h3, r3⟩ := trodAll_cons r2
  obtain ⟨v4, vs4, d4, ds4, p4, q4, rfl, rfl, rfl, h4, r4⟩ := trodAll_cons r3
  obtain ⟨v5, vs5, d5, ds5, p5, q5, rfl, rfl, rfl, h5, r5⟩ := trodAll_cons r4
  obtain ⟨rfl, rfl, rfl⟩ := trodAll_nil r5
  obtain rfl : args = #[v0, v1, v2, v3, v4, v5] := by cases args; simp_all
  obtain ⟨rfl, rfl⟩ := trodVars_none hV
  have lt0 : ∀ x ∈ p0, x.block < W.heap.size := by obtain ⟨m, hm⟩ := id h0; exact DataW.trod_lt m _ _ _ hm
  have lt1 : ∀ x ∈ p1, x.block < W.heap.size := by obtain ⟨m, hm⟩ := id h1; exact DataW.trod_lt m _ _ _ hm
  have w0 := open_N (hval 0 24 v0 rfl rfl) h0 lt0
  have w1 := open_N (hval 1 24 v1 rfl rfl) h1 lt1
  obtain ⟨a2, rfl, rfl, rfl, w2⟩ := open_int Try.underlying5 (hval 2 5 v2 rfl rfl) h2
  obtain ⟨a3, rfl, rfl, rfl, w3⟩ := open_int Try.underlying5 (hval 3 5 v3 rfl rfl) h3
  obtain ⟨a4, rfl, rfl, rfl, w4⟩ := open_int Try.underlying5 (hval 4 5 v4 rfl rfl) h4
  obtain ⟨a5, rfl, rfl, rfl, w5⟩ := open_int Try.underlying63 (hval 5 63 v5 rfl rfl) h5
  clear hA0 hval0
  refine (patterns_law v0 v1 a2 a3 a4 a5 W w0 w1 w2 w3 w4 w5).mono fun e W' ⟨he, bel⟩ => ?_
  subst he
  exact ⟨_, rfl, _, _, _, [], _, [], hW', trodAll_mk1 (shut_bool Try.underlying4 _),
    (trodAll_cons_mk (Below.trod laidOut (by kernel_rfl) (of_decide_eq_true (by kernel_rfl)) h0 bel lt0)
      (trodAll_cons_mk (Below.trod laidOut (by kernel_rfl) (of_decide_eq_true (by kernel_rfl)) h1 bel lt1)
      (trodAll_cons_mk (shut_int Try.underlying5 w2)
      (trodAll_cons_mk (shut_int Try.underlying5 w3)
      (trodAll_cons_mk (shut_int Try.underlying5 w4)
      (trodAll_cons_mk (shut_int Try.underlying63 w5)
      trodAll_mk0)))))), rfl, bel.frame _, fun h => by cases h⟩

theorem patterns_holds : Rows.IntegerPatternsSaid :=
  OpenClaim.holds_of_wide 13 Try.f13 rfl rfl rfl rfl rfl rfl rfl ⟨rfl, rfl, rfl, rfl, rfl⟩ rfl rfl rfl rfl rfl (by kernel_rfl) Try.func13 (by kernel_rfl)
    (of_decide_eq_true (by kernel_rfl)) (by unfold Func.isWrapper; first | (rw [if_pos (by decide +kernel)]; kernel_rfl) | (rw [if_neg (by decide +kernel)]; exact ⟨rfl, rfl⟩))
    (fun os started H enc _ => patterns_lifted os started H enc)
#print axioms patterns_holds
end Go.Proofs.Ytagmdeabneapaaa
