/- For all bits, n and neg, the law IntegerLarge (P2.1) returns true. Conditions: none beyond the row's own. -/
import Derived.Test.YtagmdeabneapaaaLarge
import Derived.Test.YtagmdeabneapaaaFrame
namespace Go.Proofs.Ytagmdeabneapaaa
open Go.ChangeShapes Go.WideShapes Go.ChangeAt Go.RowKit
set_option linter.unusedSimpArgs false

theorem u16_of {n : Int} (h : (Lit.int .u16 n).wf = true) : ∃ k : Nat, n = (k : Int) ∧ k ≤ 65535 := by
  simp only [Lit.wf, Bool.and_eq_true, decide_eq_true_eq] at h
  rw [show IntKind.u16.min = 0 from rfl, show IntKind.u16.max = 65535 from rfl] at h
  exact ⟨n.toNat, by omega, by omega⟩
theorem large_law (bits n : Int) (neg : Bool) (w : World) (w0 : (Lit.int .u16 bits).wf = true) (w1 : (Lit.int .u16 n).wf = true) :
    Calls Try.prog 6 #[.int .u16 bits, .int .u16 n, .bool neg] w fun e w' => IsBool w w' true e := by
  obtain ⟨B, rfl, hB⟩ := u16_of w0
  obtain ⟨N, rfl, hN⟩ := u16_of w1
  obtain ⟨b, hb⟩ : ∃ b, B % 200 = b := ⟨_, rfl⟩
  obtain ⟨k, hk⟩ : ∃ k, 1 + b = k := ⟨_, rfl⟩
  obtain ⟨m, hm⟩ : ∃ m, N % 2000 = m := ⟨_, rfl⟩
  have k0 : 0 < k := by omega
  have k1 : k ≤ 200 := by omega
  cases neg with
  | false =>
    by_cases hL : k * m + 1 ≤ 65536
    · exact case_pos B N b k m (k * m) (k * m + 1) _ w hb hk hm hB hN rfl rfl (large_pos k m k0 k1) rfl hL
    · exact case_pos_big B N b k m (k * m) (k * m + 1) _ w hb hk hm hB hN rfl rfl (large_pos k m k0 k1) rfl (by omega)
  | true =>
    by_cases ho : m % 2 = 1
    · by_cases hL : k * m ≤ 65536
      · exact case_odd B N b k m (k * m) (k * m + 1) _ w hb hk hm hB hN rfl rfl ho (large_odd k m k0 k1 ho) rfl hL
      · exact case_odd_big B N b k m (k * m) (k * m + 1) _ w hb hk hm hB hN rfl rfl ho (large_odd k m k0 k1 ho) rfl (by omega)
    · by_cases hL : k * m + 1 ≤ 65536
      · exact case_even B N b k m (k * m) (k * m + 1) _ w hb hk hm hB hN rfl rfl (by omega) (large_even k m k0 k1 (by omega)) rfl hL
      · exact case_even_big B N b k m (k * m) (k * m + 1) _ w hb hk hm hB hN rfl rfl (by omega) (large_even k m k0 k1 (by omega)) rfl (by omega)

set_option maxRecDepth 100000 in
theorem large_lifted (os : Os) (started : os.Started) (H : Type) (enc : TypeId × Value → H) :
    ReturnsInHanded {} Try.checked os 6 .any (Rows.integerLargeSpec.pre6 enc Try.prog Try.f6 Rows.integerLargeRow.domain false) (Rows.integerLargeSpec.post enc Try.prog Try.f6 false true false false) := by
  refine returnsInHanded_of_change (C := Try.checked) own started (by kernel_rfl) Try.func6
    (ChangeSpec.witness6 (enc := enc) (C := Try.checked) false ⟨#[], #[.int .u16 0, .int .u16 0, .bool false], []⟩ 8 (by kernel_rfl) (by kernel_rfl) (by kernel_rfl) (by kernel_rfl)) ?_
  intro W base args ds gs before hval0 hW hcnd _
  have hval : ∀ (j : Nat) t v, Try.f6.params[j]? = some t → args[j]? = some v → Value.okWide Try.prog W .any base t v := hval0
  have hW' := hW
  obtain ⟨p, q, hA0, hV, rfl, hfz, hnd⟩ := hW
  have hA : DataW.TrodAll enc Try.prog W 0 (fun _ => true) true Try.f6.params.toList args.toList ds p := hA0
  rw [Try.params6] at hA hval
  obtain ⟨v0, vs0, d0, ds0, p0, q0, hargs, rfl, rfl, h0, r0⟩ := trodAll_cons hA
  obtain ⟨v1, vs1, d1, ds1, p1, q1, rfl, rfl, rfl, h1, r1⟩ := trodAll_cons r0
  obtain ⟨v2, vs2, d2, ds2, p2, q2, rfl, rfl, rfl, h2, r2⟩ := trodAll_cons r1
  obtain ⟨rfl, rfl, rfl⟩ := trodAll_nil r2
  obtain rfl : args = #[v0, v1, v2] := by cases args; simp_all
  obtain ⟨rfl, rfl⟩ := trodVars_none hV
  obtain ⟨a0, rfl, rfl, rfl, w0⟩ := open_int Try.underlying63 (hval 0 63 v0 rfl rfl) h0
  obtain ⟨a1, rfl, rfl, rfl, w1⟩ := open_int Try.underlying63 (hval 1 63 v1 rfl rfl) h1
  obtain ⟨a2, rfl, rfl, rfl⟩ := open_bool Try.underlying4 (hval 2 4 v2 rfl rfl) h2
  clear hA0 hval0
  refine (large_law a0 a1 a2 W w0 w1).mono fun e W' ⟨he, bel⟩ => ?_
  subst he
  exact ⟨_, rfl, _, _, _, [], _, [], hW', trodAll_mk1 (shut_bool Try.underlying4 _),
    (trodAll_cons_mk (shut_int Try.underlying63 w0)
      (trodAll_cons_mk (shut_int Try.underlying63 w1)
      (trodAll_cons_mk (shut_bool Try.underlying4 _)
      trodAll_mk0))), rfl, bel.frame _, fun h => by cases h⟩

theorem large_holds : Rows.IntegerLargeSaid :=
  OpenClaim.holds_of_wide 6 Try.f6 rfl rfl rfl rfl rfl rfl rfl ⟨rfl, rfl, rfl, rfl, rfl⟩ rfl rfl rfl rfl rfl (by kernel_rfl) Try.func6 (by kernel_rfl)
    (of_decide_eq_true (by kernel_rfl)) (by unfold Func.isWrapper; first | (rw [if_pos (by decide +kernel)]; kernel_rfl) | (rw [if_neg (by decide +kernel)]; exact ⟨rfl, rfl⟩))
    (fun os started H enc _ => large_lifted os started H enc)
#print axioms large_holds
end Go.Proofs.Ytagmdeabneapaaa
