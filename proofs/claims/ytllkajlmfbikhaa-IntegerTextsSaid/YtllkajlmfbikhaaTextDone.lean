/- For every integer x as plain data, every text s and every int radix, the law IntegerTexts (P2.1) returns true, and what its arguments hold is unchanged. Conditions: none beyond the row's own. -/
import Derived.Test.YtllkajlmfbikhaaTextLaw
import Derived.Test.YtllkajlmfbikhaaFrame
import Derived.ChangeMaps5
namespace Go.Proofs.Ytllkajlmfbikhaa
open Go.ChangeShapes Go.WideShapes Go.ChangeAt Go.RowKit
open Go.ChangeMaps (open_string shut_string)
set_option linter.unusedSimpArgs false

open RK
set_option maxRecDepth 100000 in
set_option maxHeartbeats 4000000 in
theorem texts_long (s : ByteArray) (k : Int) (s1 : Bool) (A1 : Option Addr) (n1 c1 : Nat) (w : World) (hl : ¬ n1 ≤ 12) :
    Calls Try.prog 9 #[.agg #[.bool s1, .slice A1 n1 c1], .string s, .int .i64 k] w fun e w' => IsBool w w' true e := by
  have hb0 := boxed2_b w (.cells #[.bool s1, .slice A1 n1 c1] 24) (.cells #[.bool s1, .slice A1 n1 c1] 24)
  have sh := short1 12 s1 A1 n1 c1 (w.alloc (.cells #[.bool s1, .slice A1 n1 c1] 24)) false (decide_eq_false hl)
  rw [size_alloc] at sh
  have H := Lib.hid (And.intro sh hb0)
  clear hb0 sh hl
  go_enter Try.func9, Try.ntmps9
  go_wp2_with fail
  refine H.out.1.mono ?_
  rintro e w1 ⟨rfl, hb1⟩
  go_wp2_with fail
  refine (awake_any w1).mono ?_
  rintro e w2 ⟨rfl, hb2⟩
  go_wp2
  go_ret
  exact ⟨rfl, below_then (below_then H.out.2 hb1) hb2⟩
set_option maxRecDepth 100000 in
set_option maxHeartbeats 4000000 in
theorem texts_wide (s : ByteArray) (k : Int) (s1 : Bool) (A1 : Option Addr) (n1 c1 : Nat) (w : World) (hl : n1 ≤ 12) (hs : ¬ s.size ≤ 200) :
    Calls Try.prog 9 #[.agg #[.bool s1, .slice A1 n1 c1], .string s, .int .i64 k] w fun e w' => IsBool w w' true e := by
  have hb0 := boxed2_b w (.cells #[.bool s1, .slice A1 n1 c1] 24) (.cells #[.bool s1, .slice A1 n1 c1] 24)
  have sh := short1 12 s1 A1 n1 c1 (w.alloc (.cells #[.bool s1, .slice A1 n1 c1] 24)) true (decide_eq_true hl)
  rw [size_alloc] at sh
  have H := Lib.hid (And.intro sh hb0)
  clear hb0 sh hl
  go_enter Try.func9, Try.ntmps9
  go_wp2_with fail
  refine H.out.1.mono ?_
  rintro e w1 ⟨rfl, hb1⟩
  go_wp2_with fail
  refine (awake_any w1).mono ?_
  rintro e w2 ⟨rfl, hb2⟩
  go_wp2
  go_ret
  exact ⟨rfl, below_then (below_then H.out.2 hb1) hb2⟩
theorem fitnT (s : Bool) {xs : List Nat} {m : Nat} (ho : Lm.Ok B32 xs) (hl : xs.length ≤ m) : (ofSign s (Lm.val B32 xs)).natAbs < B32 ^ m := by
  have h := Nat.lt_of_lt_of_le (Lm.val_lt ho) (Nat.pow_le_pow_right B32_pos hl)
  unfold ofSign
  cases s <;> simp <;> exact h
theorem texts_law (v1 : Value) (s : ByteArray) (k : Int) (w : World) (h1 : IsN w v1) (_ : s.size ≤ maxLen) (_ : (Lit.int .i64 k).wf = true) :
    Calls Try.prog 9 #[v1, .string s, .int .i64 k] w fun e w' => IsBool w w' true e := by
  obtain ⟨s1, A1, c1, xs1, rfl, n1, o1, l1, _⟩ := h1
  by_cases hk : xs1.length ≤ 12
  · by_cases hs : s.size ≤ 200
    · have a1 : NAt w (.agg #[.bool s1, .slice A1 xs1.length c1]) (ofSign s1 (Lm.val B32 xs1)) := ⟨s1, A1, c1, xs1, rfl, n1, o1, l1, by omega, rfl⟩
      have f1 := fitnT s1 o1 hk
      obtain ⟨x, hx⟩ : ∃ x, ofSign s1 (Lm.val B32 xs1) = x := ⟨_, rfl⟩
      rw [hx] at a1 f1
      obtain ⟨t, et, y, ey, ha⟩ := texts_same x s k f1 hs
      exact texts_short s t k x et y ey s1 A1 c1 xs1 w a1 hk hs ha
    · exact texts_wide s k s1 A1 xs1.length c1 w hk hs
  · exact texts_long s k s1 A1 xs1.length c1 w hk

set_option maxRecDepth 100000 in
theorem texts_lifted (os : Os) (started : os.Started) (H : Type) (enc : TypeId × Value → H) :
    ReturnsInHanded {} Try.checked os 9 .any (Rows.integerTextsSpec.pre6 enc Try.prog Try.f9 Rows.integerTextsRow.domain false) (Rows.integerTextsSpec.post enc Try.prog Try.f9 false true false false) := by
  refine returnsInHanded_of_change (C := Try.checked) own started (by kernel_rfl) Try.func9
    (ChangeSpec.witness6 (enc := enc) (C := Try.checked) false ⟨#[], #[.agg #[.bool false, .slice none 0 0], .string ⟨#[]⟩, .int .i64 0], []⟩ 8 (by kernel_rfl) (by kernel_rfl) (by kernel_rfl) (by kernel_rfl)) ?_
  intro W base args ds gs before hval0 hW hcnd _
  have hval : ∀ (j : Nat) t v, Try.f9.params[j]? = some t → args[j]? = some v → Value.okWide Try.prog W .any base t v := hval0
  have hW' := hW
  obtain ⟨p, q, hA0, hV, rfl, hfz, hnd⟩ := hW
  have hA : DataW.TrodAll enc Try.prog W 0 (fun _ => true) true Try.f9.params.toList args.toList ds p := hA0
  rw [Try.params9] at hA hval
  obtain ⟨v0, vs0, d0, ds0, p0, q0, hargs, rfl, rfl, h0, r0⟩ := trodAll_cons hA
  obtain ⟨v1, vs1, d1, ds1, p1, q1, rfl, rfl, rfl, h1, r1⟩ := trodAll_cons r0
  obtain ⟨v2, vs2, d2, ds2, p2, q2, rfl, rfl, rfl, h2, r2⟩ := trodAll_cons r1
  obtain ⟨rfl, rfl, rfl⟩ := trodAll_nil r2
  obtain rfl : args = #[v0, v1, v2] := by cases args; simp_all
  obtain ⟨rfl, rfl⟩ := trodVars_none hV
  have lt0 : ∀ x ∈ p0, x.block < W.heap.size := by obtain ⟨m, hm⟩ := id h0; exact DataW.trod_lt m _ _ _ hm
  have w0 := open_N (hval 0 24 v0 rfl rfl) h0 lt0
  obtain ⟨a1, rfl, rfl, rfl, w1⟩ := open_string Try.underlying9 (hval 1 9 v1 rfl rfl) h1
  obtain ⟨a2, rfl, rfl, rfl, w2⟩ := open_int Try.underlying3 (hval 2 3 v2 rfl rfl) h2
  clear hA0 hval0
  refine (texts_law v0 a1 a2 W w0 w1 w2).mono fun e W' ⟨he, bel⟩ => ?_
  subst he
  exact ⟨_, rfl, _, _, _, [], _, [], hW', trodAll_mk1 (shut_bool Try.underlying4 _),
    (trodAll_cons_mk (Below.trod laidOut (by kernel_rfl) (of_decide_eq_true (by kernel_rfl)) h0 bel lt0)
      (trodAll_cons_mk (shut_string Try.underlying9 w1)
      (trodAll_cons_mk (shut_int Try.underlying3 w2)
      trodAll_mk0))), rfl, bel.frame _, fun h => by cases h⟩

theorem texts_holds : Rows.IntegerTextsSaid :=
  OpenClaim.holds_of_wide 9 Try.f9 rfl rfl rfl rfl rfl rfl rfl ⟨rfl, rfl, rfl, rfl, rfl⟩ rfl rfl rfl rfl rfl (by kernel_rfl) Try.func9 (by kernel_rfl)
    (of_decide_eq_true (by kernel_rfl)) (by unfold Func.isWrapper; first | (rw [if_pos (by decide +kernel)]; kernel_rfl) | (rw [if_neg (by decide +kernel)]; exact ⟨rfl, rfl⟩))
    (fun os started H enc _ => texts_lifted os started H enc)
#print axioms texts_holds
end Go.Proofs.Ytllkajlmfbikhaa
