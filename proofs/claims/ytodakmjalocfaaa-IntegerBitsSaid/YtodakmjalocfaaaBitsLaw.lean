/- The law IntegerBits: it answers true. -/
import Derived.Test.YtodakmjalocfaaaBoolB
namespace Go.Proofs.Ytodakmjalocfaaa
open Go.RowKit
set_option linter.unusedSimpArgs false

theorem row2 (w : World) (s1 s2 : Bool) (A1 A2 : Option Addr) (n1 n2 c1 c2 : Nat) (t : TypeId) :
    NRow (w.alloc (.cells #[.bool s1, .slice A1 n1 c1, .bool s2, .slice A2 n2 c2] t)) w.heap.size [⟨s1, A1, n1, c1⟩, ⟨s2, A2, n2, c2⟩] :=
  ⟨by simp, fun i x hi => by
    match i, hi with
    | 0, hi => simp at hi; subst hi; constructor <;> go_simp
    | 1, hi => simp at hi; subst hi; constructor <;> go_simp⟩
/-- The world in which the law's answer of Short is asked for. -/
def begunN2 (w : World) (a b c d : Value) : World := ((w.alloc (.cells #[a, b] 24)).alloc (.cells #[c, d] 24)).alloc (.cells #[a, b, c, d] 24)
theorem begunN2_below (w : World) (a b c d : Value) : Below w.heap.size w (begunN2 w a b c d) := (((Below.refl _ _).alloc (Nat.le_refl _) _).alloc (by simp) _).alloc (by simp; omega) _

set_option maxRecDepth 100000 in
set_option maxHeartbeats 8000000 in
theorem bits_long (op i : Int) (s1 : Bool) (A1 : Option Addr) (n1 c1 : Nat) (s2 : Bool) (A2 : Option Addr) (n2 c2 : Nat) (w : World) (hl : ¬ (n1 ≤ 8 ∧ n2 ≤ 8)) :
    Calls Try.prog 7 #[.int .i64 op, .agg #[.bool s1, .slice A1 n1 c1], .agg #[.bool s2, .slice A2 n2 c2], .int .i64 i] w fun e w' => IsBool w w' true e := by
  have hbel := begunN2_below w (.bool s1) (.slice A1 n1 c1) (.bool s2) (.slice A2 n2 c2)
  have hsh : Calls Try.prog 14 #[.int .i64 8, .slice (some ⟨w.heap.size + 2, 0, none⟩) 2 2] (begunN2 w (.bool s1) (.slice A1 n1 c1) (.bool s2) (.slice A2 n2 c2)) fun e w' => IsBool (begunN2 w (.bool s1) (.slice A1 n1 c1) (.bool s2) (.slice A2 n2 c2)) w' false e := by
    have hr := row2 ((w.alloc (.cells #[.bool s1, .slice A1 n1 c1] 24)).alloc (.cells #[.bool s2, .slice A2 n2 c2] 24)) s1 s2 A1 A2 n1 n2 c1 c2 24
    rw [size_alloc, size_alloc] at hr
    have := shortN_any (w.heap.size + 2) 8 [⟨s1, A1, n1, c1⟩, ⟨s2, A2, n2, c2⟩] _ hr (by simp)
    rw [decide_eq_false (show ¬ AllS 8 [⟨s1, A1, n1, c1⟩, ⟨s2, A2, n2, c2⟩] from fun h => hl ⟨h _ (List.mem_cons_self ..), h _ (List.mem_cons_of_mem _ (List.mem_cons_self ..))⟩)] at this
    exact this
  have H := Lib.hid (And.intro hsh hbel)
  clear hbel hsh hl
  go_enter Try.func7, Try.ntmps7
  go_wp2_with fail
  refine H.out.1.mono ?_
  rintro e w1 ⟨rfl, hb1⟩
  go_wp2_with fail
  refine (awake_any w1).mono ?_
  rintro e w2 ⟨rfl, hb2⟩
  go_wp2
  go_ret
  exact ⟨rfl, below_then (below_then H.out.2 hb1) hb2⟩
end Go.Proofs.Ytodakmjalocfaaa
