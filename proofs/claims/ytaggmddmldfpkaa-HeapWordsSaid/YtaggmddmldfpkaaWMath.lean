/- Words of the heap as numbers: tags, values; what the small functions on words do, of package heap and of the reference. -/
import Derived.Test.YtaggmddmldfpkaaChecked
import Derived.Test.YtaggmddmldfpkaaRows
import Derived.WalkKit
import Derived.WalkSpells
import Derived.WalkLawsBesides
import Derived.Lib.VarintBits
import Derived.Lib.Zigzag
import Derived.Lib.Hide
namespace Go.Proofs.Ytaggmddmldfpkaa
open Go.RowKit

theorem u64_and7 (x : Int) (h₀ : 0 ≤ x) (h₁ : x < 18446744073709551616) : bits .and .u64 x 7 = x % 8 := by
  have h := bits_mask .u64 64 (by decide) wraps_u64 3 (by decide) x h₀ (by omega)
  simpa using h
theorem bor_comm (k : IntKind) (x y : Int) : bits .or k x y = bits .or k y x := by
  unfold bits
  simp [BitVec.or_comm]
theorem u64_or_low (x t : Int) (h₀ : 0 ≤ x) (h₁ : x < 18446744073709551616) (h8 : x % 8 = 0) (t0 : 0 ≤ t) (t8 : t < 8) : bits .or .u64 x t = x + t := by
  have h := bits_join_low .u64 64 (by decide) wraps_u64 3 t x t0 t8 (by omega) h₀ h8 h₁
  rw [bor_comm, h]
  omega

/-- A number of a fixnum, and its word. -/
def okFix (n : Int) : Prop := -1152921504606846976 ≤ n ∧ n < 1152921504606846976
instance (n : Int) : Decidable (okFix n) := by unfold okFix; infer_instance
def fixW (n : Int) : Int := if okFix n then n * 8 % 18446744073709551616 else 0
def fixE (n : Int) : Int := if okFix n then 0 else 3
/-- A code of a character, and its word. -/
def okCode (c : Int) : Prop := 0 ≤ c ∧ c ≤ 1114111 ∧ (c < 55296 ∨ 57343 < c)
instance (c : Int) : Decidable (okCode c) := by unfold okCode; infer_instance
def chW (c : Int) : Int := if okCode c then c * 8 + 1 else 0
def chE (c : Int) : Int := if okCode c then 0 else 3
/-- What a word means. -/
def fixN (x : Int) : Int := if x % 8 = 0 then wrap64 x / 8 else 0
def chB (x : Int) : Bool := decide (x % 8 = 1 ∧ okCode (x / 8))
def chN (x : Int) : Int := if chB x then x / 8 else 0

/-- Two values of a tuple, and nothing else changes. -/
def IsTwo (w w' : World) (u v : Value) (e : Ending) : Prop := e = .returned (.tuple #[u, v]) ∧ w = w'
def IsOne (w w' : World) (v : Value) (e : Ending) : Prop := e = .returned v ∧ w = w'

set_option maxRecDepth 100000 in
theorem tag_any (x : Int) (w : World) (h0 : 0 ≤ x) (h1 : x ≤ 18446744073709551615) : Calls Try.prog 52 #[.int .u64 x] w fun e w' => IsOne w w' (.int .i64 (x % 8)) e := by
  have ha := u64_and7 x h0 (by omega)
  have hw := IntWalk.i64_in (x % 8) (by omega)
  go_enter Try.func52, Try.ntmps52
  go_wp2
  go_ret
  exact ⟨rfl, rfl⟩

set_option maxRecDepth 100000 in
theorem tagged_any (t x : Int) (w : World) (t0 : 0 ≤ t) (t1 : t ≤ 7) : Calls Try.prog 49 #[.int .i64 t, .int .u64 x] w fun e w' => IsOne w w' (.int .u64 (x * 8 % 18446744073709551616 + t)) e := by
  have hw := IntWalk.u64_in t (by omega)
  have hs : IntKind.u64.wrap (x * 8) = x * 8 % 18446744073709551616 := IntKind.wrap_u64 _
  obtain ⟨y, hy⟩ : ∃ y, x * 8 % 18446744073709551616 = y := ⟨_, rfl⟩
  have ho := u64_or_low y t (by omega) (by omega) (by omega) t0 (by omega)
  rw [hy] at hs ⊢
  clear hy
  go_enter Try.func49, Try.ntmps49
  go_wp2
  go_ret
  exact ⟨rfl, rfl⟩

set_option maxRecDepth 100000 in
theorem isref_any (x : Int) (w : World) (h0 : 0 ≤ x) (h1 : x ≤ 18446744073709551615) : Calls Try.prog 16 #[.int .u64 x] w fun e w' => IsOne w w' (.bool (x % 8 == 3)) e := by
  have ht := tag_any x w h0 h1
  go_enter Try.func16, Try.ntmps16
  go_wp2_with fail
  refine ht.mono ?_
  rintro e w1 ⟨rfl, rfl⟩
  go_wp2
  go_ret
  exact ⟨rfl, rfl⟩

set_option maxRecDepth 100000 in
theorem risref_any (x : Int) (w : World) (h0 : 0 ≤ x) (h1 : x ≤ 18446744073709551615) : Calls Try.prog 17 #[.int .u64 x] w fun e w' => IsOne w w' (.bool (x % 8 == 3)) e := by
  have ha := u64_and7 x h0 (by omega)
  go_enter Try.func17, Try.ntmps17
  go_wp2
  go_ret
  exact ⟨rfl, rfl⟩

set_option maxRecDepth 100000 in
theorem fixnum_any (x : Int) (w : World) (h0 : 0 ≤ x) (h1 : x ≤ 18446744073709551615) : Calls Try.prog 12 #[.int .u64 x] w fun e w' => IsTwo w w' (.int .i64 (fixN x)) (.bool (decide (x % 8 = 0))) e := by
  have ht := tag_any x w h0 h1
  by_cases h : x % 8 = 0
  · rw [h] at ht
    rw [show fixN x = wrap64 x / 8 from if_pos h, decide_eq_true h]
    clear h
    go_enter Try.func12, Try.ntmps12
    go_wp2_with fail
    refine ht.mono ?_
    rintro e w1 ⟨rfl, rfl⟩
    go_wp2
    go_ret2
    exact ⟨rfl, rfl⟩
  · rw [show fixN x = 0 from if_neg h, decide_eq_false h]
    go_enter Try.func12, Try.ntmps12
    go_wp2_with fail
    refine ht.mono ?_
    rintro e w1 ⟨rfl, rfl⟩
    go_wp2
    go_ret2
    exact ⟨rfl, rfl⟩

set_option maxRecDepth 100000 in
theorem rfixnum_any (x : Int) (w : World) (h0 : 0 ≤ x) (h1 : x ≤ 18446744073709551615) : Calls Try.prog 13 #[.int .u64 x] w fun e w' => IsTwo w w' (.int .i64 (fixN x)) (.bool (decide (x % 8 = 0))) e := by
  have ha := u64_and7 x h0 (by omega)
  by_cases h : x % 8 = 0
  · rw [h] at ha
    rw [show fixN x = wrap64 x / 8 from if_pos h, decide_eq_true h]
    clear h
    go_enter Try.func13, Try.ntmps13
    go_wp2
    go_ret2
    exact ⟨rfl, rfl⟩
  · rw [show fixN x = 0 from if_neg h, decide_eq_false h]
    go_enter Try.func13, Try.ntmps13
    go_wp2
    go_ret2
    exact ⟨rfl, rfl⟩

set_option maxRecDepth 100000 in
theorem iscode_any (c : Int) (w : World) : Calls Try.prog 50 #[.int .i64 c] w fun e w' => IsOne w w' (.bool (decide (okCode c))) e := by
  by_cases h : 0 ≤ c ∧ c ≤ 1114111
  · by_cases h2 : c < 55296
    · rw [decide_eq_true (show okCode c from ⟨h.1, h.2, .inl h2⟩)]
      obtain ⟨h3, h4⟩ := h
      go_enter Try.func50, Try.ntmps50
      go_wp2
      go_ret
      exact ⟨rfl, rfl⟩
    · by_cases h5 : c > 57343
      · rw [decide_eq_true (show okCode c from ⟨h.1, h.2, .inr h5⟩)]
        obtain ⟨h3, h4⟩ := h
        go_enter Try.func50, Try.ntmps50
        go_wp2
        go_ret
        exact ⟨rfl, rfl⟩
      · rw [decide_eq_false (show ¬ okCode c from fun k => by unfold okCode at k; omega)]
        obtain ⟨h3, h4⟩ := h
        go_enter Try.func50, Try.ntmps50
        go_wp2
        go_ret
        exact ⟨rfl, rfl⟩
  · rw [decide_eq_false (show ¬ okCode c from fun k => h ⟨k.1, k.2.1⟩)]
    by_cases h3 : 0 ≤ c
    · have h4 : ¬ c ≤ 1114111 := fun k => h ⟨h3, k⟩
      clear h
      go_enter Try.func50, Try.ntmps50
      go_wp2
      go_ret
      exact ⟨rfl, rfl⟩
    · clear h
      go_enter Try.func50, Try.ntmps50
      go_wp2
      go_ret
      exact ⟨rfl, rfl⟩

set_option maxRecDepth 100000 in
theorem rcode_any (c : Int) (w : World) : Calls Try.prog 51 #[.int .i64 c] w fun e w' => IsOne w w' (.bool (decide (okCode c))) e := by
  by_cases h : 0 ≤ c ∧ c ≤ 1114111
  · by_cases h2 : c < 55296
    · rw [decide_eq_true (show okCode c from ⟨h.1, h.2, .inl h2⟩)]
      obtain ⟨h3, h4⟩ := h
      go_enter Try.func51, Try.ntmps51
      go_wp2
      go_ret
      exact ⟨rfl, rfl⟩
    · by_cases h5 : c > 57343
      · rw [decide_eq_true (show okCode c from ⟨h.1, h.2, .inr h5⟩)]
        obtain ⟨h3, h4⟩ := h
        go_enter Try.func51, Try.ntmps51
        go_wp2
        go_ret
        exact ⟨rfl, rfl⟩
      · rw [decide_eq_false (show ¬ okCode c from fun k => by unfold okCode at k; omega)]
        obtain ⟨h3, h4⟩ := h
        go_enter Try.func51, Try.ntmps51
        go_wp2
        go_ret
        exact ⟨rfl, rfl⟩
  · rw [decide_eq_false (show ¬ okCode c from fun k => h ⟨k.1, k.2.1⟩)]
    by_cases h3 : 0 ≤ c
    · have h4 : ¬ c ≤ 1114111 := fun k => h ⟨h3, k⟩
      clear h
      go_enter Try.func51, Try.ntmps51
      go_wp2
      go_ret
      exact ⟨rfl, rfl⟩
    · clear h
      go_enter Try.func51, Try.ntmps51
      go_wp2
      go_ret
      exact ⟨rfl, rfl⟩
end Go.Proofs.Ytaggmddmldfpkaa
