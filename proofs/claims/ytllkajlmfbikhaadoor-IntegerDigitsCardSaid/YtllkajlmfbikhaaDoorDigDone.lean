/- For every integer a as plain data and all bytes radix, zeros, the law IntegerDigits (P2.6) returns true, and what its arguments hold is unchanged. Conditions: none beyond the row's own (the library's three tables hold what its text lays, which the card ties). -/
import Derived.Test.YtllkajlmfbikhaaDoorDigLaw
import Derived.Test.YtllkajlmfbikhaaDoorFrame
import Derived.Test.YtllkajlmfbikhaaDoorCards
import Derived.Test.YtllkajlmfbikhaaDoorTie
import Derived.WalkKit
import Derived.ProofKit
import Derived.Lay
import Derived.LaidOnce
import Derived.SevenTiedAt
namespace Go.Proofs.YtllkajlmfbikhaaDoor
open Go.ChangeShapes Go.WideShapes Go.ChangeAt Go.RowKit
set_option linter.unusedSimpArgs false

set_option maxRecDepth 100000 in
set_option maxHeartbeats 4000000 in
theorem digits_long (m n : Int) (s1 : Bool) (A1 : Option Addr) (n1 c1 : Nat) (w : World) (hl : ¬ n1 ≤ 8) :
    Calls Tryd.prog 3 #[.agg #[.bool s1, .slice A1 n1 c1], .int .u8 m, .int .u8 n] w fun e w' => IsBool w w' true e := by
  have hb0 : Below w.heap.size w (w.alloc (.cells #[.bool s1, .slice A1 n1 c1] 24)) := (Below.refl _ _).alloc (Nat.le_refl _) _
  have hsz : (w.alloc (.cells #[.bool s1, .slice A1 n1 c1] 24)).heap.size = w.heap.size + 1 := by rw [size_alloc]
  have hba : Below (w.alloc (.cells #[.bool s1, .slice A1 n1 c1] 24)).heap.size (w.alloc (.cells #[.bool s1, .slice A1 n1 c1] 24)) ((w.alloc (.cells #[.bool s1, .slice A1 n1 c1] 24)).alloc (.cells #[.bool s1, .slice A1 n1 c1] 24)) := (Below.refl _ _).alloc (Nat.le_refl _) _
  have hsh : Calls Tryd.prog 4 #[.int .i64 8, .slice (some ⟨w.heap.size + 1, 0, none⟩) 1 1] ((w.alloc (.cells #[.bool s1, .slice A1 n1 c1] 24)).alloc (.cells #[.bool s1, .slice A1 n1 c1] 24)) fun e w' => IsBool ((w.alloc (.cells #[.bool s1, .slice A1 n1 c1] 24)).alloc (.cells #[.bool s1, .slice A1 n1 c1] 24)) w' false e := by
    have hr := row1 (w.alloc (.cells #[.bool s1, .slice A1 n1 c1] 24)) s1 A1 n1 c1 24
    rw [hsz] at hr
    have := shortN_any (w.heap.size + 1) 8 [⟨s1, A1, n1, c1⟩] _ hr (by simp)
    rw [decide_eq_false (show ¬ AllS 8 [⟨s1, A1, n1, c1⟩] from fun h => hl (h _ (List.mem_cons_self ..)))] at this
    exact this
  have H := Lib.hid (And.intro hsh (below_then hb0 hba))
  clear hb0 hsz hba hsh hl
  go_enter Tryd.func3, Tryd.ntmps3
  go_wp2_with fail
  refine H.out.1.mono ?_
  rintro e w1 ⟨rfl, hb1⟩
  go_wp2_with fail
  refine (awake_any w1).mono ?_
  rintro e w2 ⟨rfl, hb2⟩
  go_wp2
  go_ret
  exact ⟨rfl, below_then (below_then H.out.2 hb1) hb2⟩

theorem digits_law (v1 : Value) (m n : Int) (w : World) (h1 : IsN w v1) (wm : (Lit.int .u8 m).wf = true) (wn : (Lit.int .u8 n).wf = true) :
    Calls Tryd.prog 3 #[v1, .int .u8 m, .int .u8 n] w fun e w' => IsBool w w' true e := by
  obtain ⟨s1, A1, c1, xs1, rfl, n1, o1, l1, _⟩ := h1
  have hm : 0 ≤ m ∧ m ≤ 255 := by simpa [Lit.wf, IntKind.min, IntKind.max, IntKind.signed, IntKind.bits] using wm
  have hn : 0 ≤ n ∧ n ≤ 255 := by simpa [Lit.wf, IntKind.min, IntKind.max, IntKind.signed, IntKind.bits] using wn
  obtain ⟨a, rfl⟩ : ∃ a : Nat, m = (a : Int) := ⟨m.toNat, by omega⟩
  obtain ⟨b, rfl⟩ : ∃ b : Nat, n = (b : Int) := ⟨n.toNat, by omega⟩
  by_cases hk : xs1.length ≤ 8
  · have hp : Plain w A1 c1 xs1 := ⟨n1, o1, hk, l1⟩
    rcases Int.lt_trichotomy (ofSign s1 (Lm.val B32 xs1)) 0 with hz | hz | hz
    · exact digits_neg a b s1 A1 c1 xs1 w hp hk (by omega) (by omega) hz
    · exact digits_zero a b s1 A1 c1 xs1 w hp hk (by omega) (by omega) hz
    · exact digits_pos a b s1 A1 c1 xs1 w hp hk (by omega) (by omega) hz
  · exact digits_long _ _ s1 A1 xs1.length c1 w hk

set_option maxRecDepth 100000 in
theorem digits_lifted (os : Os) (started : os.Started) (H : Type) (enc : TypeId × Value → H) :
    ReturnsInHanded {} Tryd.checked os 3 .any (fun w args => (Rows.integerDigitsSpec.pre enc Tryd.prog Tryd.f3 [] false w args ∧ laidMetH Tryd.prog Rows.integerDigitsRow.laid w) ∧ sizedMet enc Tryd.prog Tryd.f3 (OpenSpec.ofChange Rows.integerDigitsSpec) false w args)
      (Rows.integerDigitsSpec.post enc Tryd.prog Tryd.f3 false true false false) := by
  refine returnsInHanded_of_change_and (C := Tryd.checked) (X := fun w _ => laidMetH Tryd.prog Rows.integerDigitsRow.laid w) (fun _ _ _ hh h => h.of_heap hh) own started (by kernel_rfl) Tryd.func3
    (ChangeSpec.witness_shaped (enc := enc) (C := Tryd.checked) (os := os) (X := fun w _ => laidMetH Tryd.prog Rows.integerDigitsRow.laid w) false (World.laidAll Tryd.prog os Rows.integerDigitsRow.laid) #[.agg #[.bool false, .slice none 0 0], .int .u8 0, .int .u8 0] 8 (World.laidAll_os _ _ _)
      (World.shaped_of_ZipB (by kernel_rfl) (by kernel_rfl)) (by kernel_rfl) (by kernel_rfl) (by kernel_rfl)
      (by rw [MakeChecks.laidMetH_plain _ _ _ (by kernel_rfl)]; exact laidMet_laidAll _ (by kernel_rfl) (by kernel_rfl))) ?_
  intro W base args ds gs before hval0 hW _ _ _ _
  have hval : ∀ (j : Nat) t v, Tryd.f3.params[j]? = some t → args[j]? = some v → Value.okWide Tryd.prog W .any base t v := hval0
  have hW' := hW
  obtain ⟨p, q, hA0, hV, rfl, hfz, hnd⟩ := hW
  have hA : DataW.TrodAll enc Tryd.prog W 0 (fun _ => true) true Tryd.f3.params.toList args.toList ds p := hA0
  rw [Tryd.params3] at hA hval
  obtain ⟨v0, vs0, d0, ds0, p0, q0, hargs, rfl, rfl, h0, r0⟩ := trodAll_cons hA
  obtain ⟨v1, vs1, d1, ds1, p1, q1, rfl, rfl, rfl, h1, r1⟩ := trodAll_cons r0
  obtain ⟨v2, vs2, d2, ds2, p2, q2, rfl, rfl, rfl, h2, r2⟩ := trodAll_cons r1
  obtain ⟨rfl, rfl, rfl⟩ := trodAll_nil r2
  obtain rfl : args = #[v0, v1, v2] := by cases args; simp_all
  obtain ⟨rfl, rfl⟩ := trodVars_none hV
  have lt0 : ∀ x ∈ p0, x.block < W.heap.size := by obtain ⟨m, hm⟩ := id h0; exact DataW.trod_lt m _ _ _ hm
  have w0 := open_N (hval 0 24 v0 rfl rfl) h0 lt0
  obtain ⟨a1, rfl, rfl, rfl, w1⟩ := open_int Tryd.underlying5 (hval 1 5 v1 rfl rfl) h1
  obtain ⟨a2, rfl, rfl, rfl, w2⟩ := open_int Tryd.underlying5 (hval 2 5 v2 rfl rfl) h2
  clear hA0 hval0
  refine (digits_law v0 a1 a2 W w0 w1 w2).mono fun e W' ⟨he, bel⟩ => ?_
  subst he
  exact ⟨_, rfl, _, _, _, [], _, [], hW', trodAll_mk1 (shut_bool Tryd.underlying4 _),
    (trodAll_cons_mk (Below.trod laidOut (by kernel_rfl) (of_decide_eq_true (by kernel_rfl)) h0 bel lt0)
      (trodAll_cons_mk (shut_int Tryd.underlying5 w1) (trodAll_cons_mk (shut_int Tryd.underlying5 w2) trodAll_mk0))), rfl, bel.frame _, fun h => by cases h⟩

theorem digits_row : Rows.IntegerDigitsSaid :=
  OpenClaim.holds_of_wide 3 Tryd.f3 rfl rfl rfl rfl rfl rfl rfl ⟨rfl, rfl, rfl, rfl, rfl⟩ rfl rfl rfl rfl rfl (by kernel_rfl) Tryd.func3 (by kernel_rfl)
    (of_decide_eq_true (by kernel_rfl)) (by unfold Func.isWrapper; first | (rw [if_pos (by decide +kernel)]; kernel_rfl) | (rw [if_neg (by decide +kernel)]; exact ⟨rfl, rfl⟩))
    (fun os started H enc _ => digits_lifted os started H enc)

theorem digits_holds : Rows.IntegerDigitsCardSaid :=
  Claim7.holds_tied_plain_at .later [] _ _ _ _ digits_row (fun _ h => by cases h) (by kernel_rfl) (fun _ h => by cases h) integerDigits_row_tie rfl ⟨rfl, rfl⟩ (by kernel_rfl) rfl
    (fun f fn hf hfn => by
      obtain rfl : f = 3 := Option.some.inj ((show Tryd.prog.funcNamed "commonform/commonformlaw02.IntegerDigits" = some 3 by kernel_rfl).symm.trans hf) |>.symm
      obtain rfl : fn = Tryd.f3 := (Option.some.inj (Tryd.func3.symm.trans hfn)).symm
      exact ⟨by kernel_rfl, fun j t ht => by
        rw [Tryd.params3] at ht
        have hm : t ∈ [24, 5, 5] := by simpa using Array.mem_of_getElem? ht
        have hall : ([24, 5, 5].all fun u => !Tryd.prog.wantsStandIn u) = true := by kernel_rfl
        exact (show Tryd.prog.wantsStandIn t = false by simpa using List.all_eq_true.1 hall t hm)⟩)
    (by kernel_rfl)
#print axioms digits_holds
end Go.Proofs.YtllkajlmfbikhaaDoor
